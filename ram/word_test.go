package ram

import (
	"testing"

	"tappet/api"
)

func TestWordsByHand(t *testing.T) {
	r := newPair(t, 4).r
	r.Write(0x80000000, []byte{0xf0, 0x11, 0x22, 0x33, 0x44, 0x55, 0x66, 0x77, 0x88, 0x99})
	r.Write(0x80003ff8, []byte{1, 2, 3, 4, 5, 6, 7, 0x80})
	for _, row := range []struct {
		addr uint64
		size int
		want uint64
		e    api.Errno
	}{
		{0x80000000, 1, 0xf0, 0},
		{0x80000001, 1, 0x11, 0},
		{0x80000000, 2, 0x11f0, 0},
		{0x80000002, 2, 0x3322, 0},
		{0x80000000, 4, 0x332211f0, 0},
		{0x80000004, 4, 0x77665544, 0},
		{0x80000000, 8, 0x77665544332211f0, 0},
		{0x80000008, 8, 0x9988, 0},
		{0x80000ff8, 8, 0, 0},
		{0x80003ff8, 8, 0x8007060504030201, 0},
		{0x80003ffc, 4, 0x80070605, 0},
		{0x80003ffe, 2, 0x8007, 0},
		{0x80003fff, 1, 0x80, 0},
		{0x80000001, 2, 0, 5},
		{0x80000002, 4, 0, 5},
		{0x80000004, 8, 0, 5},
		{0x80003fff, 2, 0, 5}, // misaligned, and one of its bytes not in RAM
		{0x80003ffc, 8, 0, 5},
		{0x80004001, 2, 0, 5},
		{0x7fffffff, 2, 0, 5},
		{1<<64 - 1, 8, 0, 5}, // misaligned, and past 2^64
		{1, 4, 0, 5},
		{0x80004000, 1, 0, 6},
		{0x80004000, 8, 0, 6},
		{0x7ffffff8, 8, 0, 6},
		{0x7fffffff, 1, 0, 6},
		{0x1000, 4, 0, 6},
		{0, 1, 0, 6},
		{1<<64 - 8, 8, 0, 6},
		{1<<64 - 1, 1, 0, 6},
		{0x180000000, 4, 0, 6},
		{0x80000000, 0, 0, 1},
		{0x80000000, 3, 0, 1},
		{0x80000000, 16, 0, 1},
		{0x80000000, -8, 0, 1},
		{0x80000001, 3, 0, 1}, // misaligned, too
		{0x7fffffff, 16, 0, 1},
		{1<<64 - 1, 5, 0, 1},
	} {
		v, e := r.Word(row.addr, row.size)
		if v != row.want || e != row.e {
			t.Errorf("P10.2: Word(%#x, %d) = %#x, error %d; want %#x, error %d", row.addr, row.size, v, e, row.want, row.e)
		}
		if e := r.Put(row.addr, row.size, row.want); e != row.e {
			t.Errorf("P10.2: Put(%#x, %d, %#x): error %d; want %d", row.addr, row.size, row.want, e, row.e)
		}
	}
	expectRead(t, r, 0x80000000, 0xf0, 0x11, 0x22, 0x33, 0x44, 0x55, 0x66, 0x77, 0x88, 0x99, 0)
	expectRead(t, r, 0x80003ff7, 0, 1, 2, 3, 4, 5, 6, 7, 0x80)
}

// Put stores the lowest bytes, the least of them first, and no other ones.
func TestPutByHand(t *testing.T) {
	for _, row := range []struct {
		addr uint64
		size int
		want []byte // from two bytes ahead of addr on
	}{
		{0x80000008, 1, []byte{0xee, 0xee, 0x88, 0xee, 0xee, 0xee, 0xee, 0xee, 0xee, 0xee, 0xee}},
		{0x80000008, 2, []byte{0xee, 0xee, 0x88, 0x77, 0xee, 0xee, 0xee, 0xee, 0xee, 0xee, 0xee}},
		{0x80000008, 4, []byte{0xee, 0xee, 0x88, 0x77, 0x66, 0x55, 0xee, 0xee, 0xee, 0xee, 0xee}},
		{0x80000008, 8, []byte{0xee, 0xee, 0x88, 0x77, 0x66, 0x55, 0x44, 0x33, 0x22, 0x11, 0xee}},
		{0x8000000b, 1, []byte{0xee, 0xee, 0x88, 0xee, 0xee}},
		{0x80000ffe, 2, []byte{0xee, 0xee, 0x88, 0x77, 0xee}},
		{0x80001ffc, 4, []byte{0xee, 0xee, 0x88, 0x77, 0x66, 0x55, 0xee}},
		{0x80002ff8, 8, []byte{0xee, 0xee, 0x88, 0x77, 0x66, 0x55, 0x44, 0x33, 0x22, 0x11, 0xee}},
		{0x80003ff8, 8, []byte{0xee, 0xee, 0x88, 0x77, 0x66, 0x55, 0x44, 0x33, 0x22, 0x11}},
	} {
		r := newPair(t, 4).r
		fill := make([]byte, 0x4000)
		for i := range fill {
			fill[i] = 0xee
		}
		r.Write(0x80000000, fill)
		if e := r.Put(row.addr, row.size, 0x1122334455667788); e != api.OK {
			t.Errorf("P10.2: Put(%#x, %d): error %d", row.addr, row.size, e)
		}
		expectRead(t, r, row.addr-2, row.want...)
	}
}

// Each size at each address about the ends of RAM and of pages, aligned and misaligned, in RAM and elsewhere.
func TestWordsAtTheBorders(t *testing.T) {
	d := dice(20)
	for _, pages := range few {
		x := written(t, pages)
		for _, addr := range anywhere(pages) {
			for _, size := range sizes {
				x.word(addr, size)
				x.put(addr, size, d.next())
				x.word(addr, size)
				x.read(addr-8, 24)
				for _, other := range sizes {
					x.word(addr-addr%uint64(other), other)
				}
			}
		}
		x.whole()
	}
}

func TestWordsAtEachAddress(t *testing.T) {
	x := written(t, 4)
	for addr := uint64(0x7ffffff0); addr < 0x80004010; addr++ {
		for _, size := range sizes {
			x.word(addr, size)
			x.put(addr, size, 0xf7e6d5c4b3a29180+addr)
			x.word(addr, size)
		}
	}
	x.whole()
}

// A size that is none is refused ahead of all else but a nil memory, and nothing is stored.
func TestWordsRefuseOtherSizes(t *testing.T) {
	x := written(t, 4)
	refuse := func(addr uint64, size int) {
		v, e := x.r.Word(addr, size)
		if f := x.r.Put(addr, size, 0xf7e6d5c4b3a29180); v != 0 || e != api.ErrArg || f != api.ErrArg {
			t.Errorf("P10.2: at %#x with size %d: Word %#x, error %d; Put error %d", addr, size, v, e, f)
		}
	}
	for _, addr := range anywhere(4) {
		for _, size := range noSizes {
			refuse(addr, size)
		}
	}
	for size := range 1 << 13 {
		if size != 1 && size != 2 && size != 4 && size != 8 {
			refuse(0x80000000, size)
			refuse(0x80000000, -size)
		}
	}
	x.whole()
}

// A misaligned address is refused ahead of where it is.
func TestWordsRefuseMisalignedAddresses(t *testing.T) {
	x := written(t, 4)
	for _, addr := range anywhere(4) {
		for _, size := range sizes {
			want := api.Errno(0)
			switch {
			case addr%uint64(size) != 0:
				want = 5
			case addr < 0x80000000 || addr > 0x80003fff:
				want = 6
			}
			_, e := x.r.Word(addr, size)
			if f := x.r.Put(addr, size, 0); e != want || f != want {
				t.Errorf("P10.2: at %#x with size %d: errors %d, %d; want %d", addr, size, e, f, want)
			}
		}
	}
}
