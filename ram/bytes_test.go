package ram

import (
	"bytes"
	"testing"

	"tappet/api"
)

func expectRead(t *testing.T, r *Ram, addr uint64, want ...byte) {
	t.Helper()
	if b, e := r.Read(addr, len(want)); e != api.OK || !bytes.Equal(b, want) {
		t.Errorf("P10.1: Read(%#x, %d): % x, error %d; want % x", addr, len(want), b, e, want)
	}
}

func TestBytesByHand(t *testing.T) {
	r := newPair(t, 4).r
	for _, row := range []struct {
		addr uint64
		b    []byte
		e    api.Errno
	}{
		{0x80000000, []byte{0x11}, 0},
		{0x80003fff, []byte{0x22}, 0},
		{0x80000ffe, []byte{1, 2, 3, 4}, 0}, // from one page into the next
		{0x80003ffd, []byte{7, 8}, 0},
		{0x7fffffff, []byte{9}, 6},
		{0x7fffffff, []byte{9, 9}, 6},
		{0x80003fff, []byte{9, 9}, 6},
		{0x80004000, []byte{9}, 6},
		{0x80004000, nil, 0},
		{0x1000, []byte{9}, 6},
		{0, nil, 0},
		{1<<64 - 1, []byte{9}, 6},
		{1<<64 - 1, []byte{9, 9}, 6},
		{1<<64 - 1, nil, 0},
		{0x180000000, []byte{9}, 6},
	} {
		if e := r.Write(row.addr, row.b); e != row.e {
			t.Errorf("P10.1: Write(%#x, % x): error %d", row.addr, row.b, e)
		}
	}
	expectRead(t, r, 0x80000000, 0x11, 0)
	expectRead(t, r, 0x80000ffd, 0, 1, 2, 3, 4, 0)
	expectRead(t, r, 0x80001000, 3)
	expectRead(t, r, 0x80003ffc, 0, 7, 8, 0x22)
	expectRead(t, r, 0x80003ffe, 8, 0x22)
	expectRead(t, r, 0x80002000, 0, 0, 0)
	expectRead(t, r, 0x80004000)
}

// written is a pair with another byte at each address; in the page at 0x80002000 nothing was written.
func written(t *testing.T, pages int) pair {
	t.Helper()
	x := newPair(t, pages)
	x.write(0x80000000, pattern(0x2000, 0))
	x.write(0x80003000, pattern(0x1000*(pages-3), 100))
	return x
}

func TestReadOfEachLengthAtTheBorders(t *testing.T) {
	for _, pages := range few {
		x := written(t, pages)
		for _, addr := range anywhere(pages) {
			for _, n := range lengths(pages) {
				x.read(addr, n)
			}
		}
		x.whole()
	}
}

func TestReadAtEachAddress(t *testing.T) {
	x := written(t, 4)
	for addr := uint64(0x7ffffff0); addr < 0x80004010; addr++ {
		x.read(addr, 1)
		x.read(addr, 3)
		x.read(addr, 64)
	}
}

// A number of bytes below 0 is refused ahead of where they would be; one that is too great, because of that.
func TestReadRefusesNumbers(t *testing.T) {
	for _, pages := range few {
		x := written(t, pages)
		for _, addr := range anywhere(pages) {
			for _, n := range belowZero {
				if b, e := x.r.Read(addr, n); len(b) != 0 || e != api.ErrArg {
					t.Errorf("P10.1: Read(%#x, %d): %d bytes, error %d", addr, n, len(b), e)
				}
			}
			for _, n := range great {
				if b, e := x.r.Read(addr, n); len(b) != 0 || e != api.ErrBus {
					t.Errorf("P10.1: Read(%#x, %d): %d bytes, error %d", addr, n, len(b), e)
				}
			}
		}
		x.whole()
	}
}

func TestNoBytesAreEverywhere(t *testing.T) {
	x := written(t, 4)
	for _, addr := range anywhere(4) {
		if b, e := x.r.Read(addr, 0); len(b) != 0 || e != api.OK {
			t.Errorf("P10.1: Read(%#x, 0): %d bytes, error %d", addr, len(b), e)
		}
		for _, b := range [][]byte{nil, {}, pattern(9, 0)[:0]} {
			if e := x.r.Write(addr, b); e != api.OK {
				t.Errorf("P10.1: Write(%#x) of no bytes: error %d", addr, e)
			}
			for _, strobe := range [][]bool{nil, {}, {true}, all(4097)} {
				if e := x.r.Some(addr, b, strobe); e != api.OK {
					t.Errorf("P10.1: Some(%#x) of no bytes, %d bools: error %d", addr, len(strobe), e)
				}
			}
		}
	}
	x.whole()
}

func TestWriteOfEachLengthAtTheBorders(t *testing.T) {
	for _, pages := range []int{4, 5} {
		for i, n := range lengths(pages) {
			x := newPair(t, pages)
			for j, addr := range anywhere(pages) {
				x.write(addr, pattern(n, 7*i+j))
				x.read(addr-3, n+6)
				x.read(addr-1, 1)
				x.read(addr+uint64(n), 1)
			}
			x.whole()
		}
	}
}

func TestWriteOfAllBytes(t *testing.T) {
	for _, pages := range few {
		x := newPair(t, pages)
		n := len(x.p)
		x.write(0x80000000, pattern(n+1, 3)) // one too many
		x.write(0x7fffffff, pattern(n, 3))
		x.write(0x80000001, pattern(n, 3))
		x.whole()
		x.write(0x80000000, pattern(n, 3))
		x.whole()
		x.write(0x80000001, pattern(n-1, 9))
		x.whole()
		x.write(0x80000000, make([]byte, n))
		x.whole()
	}
}

// One byte at a time, each page created by another one of its bytes.
func TestWriteOfEachByte(t *testing.T) {
	x := newPair(t, 4)
	for i := range 0x4000 {
		x.write(0x80000000+uint64(i*5077%0x4000), []byte{byte(i%255 + 1)})
		if i%1000 == 0 {
			x.whole()
		}
	}
	x.whole()
}

// The bytes that a strobe leaves out are not stored, but must be in RAM.
func TestSomeByHand(t *testing.T) {
	r := newPair(t, 4).r
	for _, row := range []struct {
		addr   uint64
		b      []byte
		strobe []bool
		e      api.Errno
	}{
		{0x80000000, []byte{1, 2, 3, 4}, []bool{true, false, true, false}, 0},
		{0x80000010, []byte{1, 2, 3, 4}, []bool{false, true}, 0},                                  // shorter
		{0x80000020, []byte{1, 2}, []bool{true, true, true, true}, 0},                             // longer
		{0x80000030, []byte{1, 2}, nil, 0},                                                        // none
		{0x80000ffe, []byte{5, 6, 7, 8}, []bool{false, true, true, false}, 0},                     // from one page into the next
		{0x80001ffe, []byte{5, 6, 7, 8}, []bool{true, false, false, true}, 0},                     // likewise
		{0x80003ffe, []byte{9, 9}, []bool{false, true}, 0},                                        // to the last byte
		{0x80003fff, []byte{8, 8}, []bool{true, false}, 6},                                        // the one behind it is left out
		{0x7fffffff, []byte{8, 8}, []bool{false, true}, 6},                                        // the one ahead of the first is left out
		{0x80003fff, []byte{8, 8}, nil, 6},                                                        // all are left out
		{0x80004000, nil, []bool{true, true}, 0},                                                  // there are none
		{1<<64 - 1, []byte{8, 8}, []bool{false, false}, 6},                                        // past 2^64
		{1<<64 - 4, []byte{8, 8, 8, 8, 8, 8}, []bool{false, false, false, false, true, false}, 6}, // likewise
	} {
		if e := r.Some(row.addr, row.b, row.strobe); e != row.e {
			t.Errorf("P10.1: Some(%#x, % x, %t): error %d", row.addr, row.b, row.strobe, e)
		}
	}
	expectRead(t, r, 0x80000000, 1, 0, 3, 0, 0)
	expectRead(t, r, 0x8000000f, 0, 0, 2, 0, 0, 0)
	expectRead(t, r, 0x80000020, 1, 2, 0, 0, 0)
	expectRead(t, r, 0x80000030, 0, 0)
	expectRead(t, r, 0x80000ffd, 0, 0, 6, 7, 0, 0)
	expectRead(t, r, 0x80001ffd, 0, 5, 0, 0, 8, 0)
	expectRead(t, r, 0x80003ffd, 0, 0, 9)
}

// Each strobe of six elements and fewer, longer ones, too, over bytes that were written and over those that were not.
func TestSomeWithEachStrobe(t *testing.T) {
	for _, x := range []pair{written(t, 4), newPair(t, 4)} {
		for bools := range 7 {
			for which := range 1 << bools {
				var strobe []bool
				for i := range bools {
					strobe = append(strobe, which>>i&1 == 1)
				}
				for _, addr := range []uint64{0x80000000, 0x80000ffd, 0x80001ffd, 0x80002800, 0x80003ffa, 0x80003ffc, 0x7ffffffd} {
					for n := range 7 {
						x.some(addr, pattern(n, which+bools), strobe)
						x.read(addr-2, n+4)
					}
				}
			}
		}
		x.whole()
	}
}

func TestSomeOfEachLengthAtTheBorders(t *testing.T) {
	d := dice(10)
	for _, n := range lengths(4) {
		x := written(t, 4)
		for _, addr := range anywhere(4) {
			strobe := make([]bool, d.below(n+20))
			for i := range strobe {
				strobe[i] = d.below(3) > 0
			}
			x.some(addr, pattern(n, d.below(251)), strobe)
			x.some(addr, pattern(n, d.below(251)), make([]bool, n))
			x.some(addr, pattern(n, 5), nil)
			x.read(addr-3, n+6)
		}
		x.whole()
		x.some(0x80000000, pattern(n, 77), all(n))
		x.whole()
	}
}

// To write is to store some, with a strobe that is true all along.
func TestSomeWithAllIsWrite(t *testing.T) {
	for _, n := range lengths(4) {
		for _, addr := range anywhere(4) {
			a, b := newPair(t, 4).r, newPair(t, 4).r
			e, f := a.Write(addr, pattern(n, 1)), b.Some(addr, pattern(n, 1), all(n+n%3))
			if e != f || !a.Same(b) {
				t.Fatalf("P10.1: at %#x, %d bytes: Write: error %d; Some: error %d, or other bytes", addr, n, e, f)
			}
		}
	}
}

// What is handed in is neither changed, behind its end either, nor kept.
func TestWhatIsHandedInStays(t *testing.T) {
	for _, addr := range []uint64{0x80000000, 0x80000ffd, 0x80003ff9, 0x80003ffa, 0} {
		x := newPair(t, 4)
		given, bools := pattern(20, 0), make([]bool, 20)
		for i := range bools {
			bools[i] = i%3 == 0
		}
		x.write(addr, given[2:9])
		x.some(addr, given[4:10], bools[1:5])
		x.put(0x80002000, 8, 1)
		if !bytes.Equal(given, pattern(20, 0)) {
			t.Errorf("R3: at %#x, the bytes are changed: % x", addr, given)
		}
		for i := range bools {
			if bools[i] != (i%3 == 0) {
				t.Errorf("R3: at %#x, the strobe is changed: %t", addr, bools)
			}
		}
		clear(given)
		clear(bools)
		x.whole()
	}
}

// A whole page that is handed in at once is not kept, either.
func TestPagesThatAreHandedInAreNotKept(t *testing.T) {
	x := newPair(t, 4)
	given := pattern(0x4000, 0)
	x.write(0x80000000, given)
	clear(given)
	x.whole()
	x.some(0x80000000, given, all(0x4000))
	copy(given, pattern(0x4000, 9))
	x.whole()
}

// What Read returns is new each time: to write to it, behind its end too, alters nothing else.
func TestWhatReadReturnsIsNew(t *testing.T) {
	x := written(t, 4)
	for _, addr := range []uint64{0x80000000, 0x80000ffd, 0x80001000, 0x80002000, 0x80003000, 0x80003ff0} {
		for _, n := range []int{0, 1, 8, 16} {
			a, _ := x.r.Read(addr, n)
			b, _ := x.r.Read(addr, n)
			was := bytes.Clone(b)
			for i := range a[:cap(a)] {
				a[:cap(a)][i] ^= 0xff
			}
			if !bytes.Equal(b, was) {
				t.Errorf("R3: what Read(%#x, %d) returned is altered by another result", addr, n)
			}
			x.whole()
		}
	}
	a, _ := x.r.Read(0x80000000, 0x4000)
	clear(a)
	x.whole()
	b, _ := x.r.Read(0x80000000, 0x4000)
	was := bytes.Clone(b)
	x.write(0x80000000, make([]byte, 0x4000))
	if !bytes.Equal(b, was) {
		t.Error("R3: what Read returned is altered by a Write")
	}
}
