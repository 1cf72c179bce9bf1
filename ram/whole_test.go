package ram

import (
	"testing"

	"tappet/api"
)

// fork is a copy of x, on both sides.
func (x pair) fork() pair {
	x.t.Helper()
	f := x.r.Fork()
	if f == nil || f == x.r || f.Pages() != x.r.Pages() {
		x.t.Fatalf("P10.2: of %d pages, Fork is no copy", x.r.Pages())
	}
	return pair{x.t, f, append(plain(nil), x.p...)}
}

func TestForkIsACopy(t *testing.T) {
	for _, pages := range few {
		for _, x := range []pair{newPair(t, pages), written(t, pages)} {
			f := x.fork()
			f.whole()
			expectSame(t, x.r, f.r, true)
			f.fork().whole()
		}
	}
}

// Neither of both plays a part in what is done with the other one, in pages that were written ahead of the copy or not.
func TestForksAreApart(t *testing.T) {
	for _, addr := range []uint64{0x80000000, 0x80000ffe, 0x80001fff, 0x80002800, 0x80003000, 0x80003ffc} {
		for _, size := range sizes {
			at := addr - addr%uint64(size)
			x := written(t, 4)
			f := x.fork()
			f.put(at, size, 0xa1a2a3a4a5a6a7a8)
			x.whole()
			f.whole()
			expectSame(t, x.r, f.r, false)
			g := f.fork()
			x.put(at, size, 0xb1b2b3b4b5b6b7b8)
			g.some(addr, []byte{1, 2, 3}, []bool{true, false, true})
			for _, y := range []pair{x, f, g} {
				y.whole()
			}
		}
	}
}

// A copy made of a copy outlives what becomes of those it was made of.
func TestForksOfForks(t *testing.T) {
	l := []pair{newPair(t, 5)}
	d := dice(30)
	for i := range 40 {
		l = append(l, l[d.below(len(l))].fork())
		for range 20 {
			x := l[d.below(len(l))]
			x.write(0x80000000+uint64(d.below(0x5010)), pattern(d.below(40), i))
		}
		for _, x := range l {
			x.whole()
		}
	}
}

func expectSame(t *testing.T, a, b *Ram, want bool) {
	t.Helper()
	if a.Same(b) != want || b.Same(a) != want {
		t.Errorf("P10.2: Same = %t and %t, want %t", a.Same(b), b.Same(a), want)
	}
}

func TestSameOfNil(t *testing.T) {
	var none *Ram
	expectSame(t, none, nil, true)
	for _, pages := range few {
		expectSame(t, newPair(t, pages).r, nil, false)
		expectSame(t, written(t, pages).r, nil, false)
	}
}

func TestSameOfNumbersOfPages(t *testing.T) {
	for a := 4; a <= 256; a++ {
		x := newPair(t, a)
		expectSame(t, x.r, x.r, true)
		for _, b := range []int{4, 5, a - 1, a, a + 1, 255, 256} {
			if b < 4 || b > 256 {
				continue
			}
			expectSame(t, x.r, newPair(t, b).r, a == b)
		}
	}
}

// Another number of pages makes another memory, though all bytes that both have are the same.
func TestSameBytesInMorePages(t *testing.T) {
	x, y := newPair(t, 4), newPair(t, 5)
	for _, z := range []pair{x, y} {
		z.write(0x80000000, pattern(0x4000, 0))
	}
	expectSame(t, x.r, y.r, false)
	y.write(0x80004000, make([]byte, 0x1000))
	expectSame(t, x.r, y.r, false)
}

// A page that was written with 0 has the bytes of one that was not written, whichever side has it.
func TestSameOfPagesThatAreAllZero(t *testing.T) {
	for number := range uint64(4) {
		at := 0x80000000 + 0x1000*number
		a, b, c := newPair(t, 4), newPair(t, 4), newPair(t, 4)
		a.put(at, 8, 0)
		b.write(at, make([]byte, 0x1000))
		b.write(at+5, []byte{1})
		expectSame(t, a.r, b.r, false)
		expectSame(t, c.r, b.r, false)
		b.write(at+5, []byte{0})
		expectSame(t, a.r, b.r, true)
		expectSame(t, b.r, c.r, true)
		expectSame(t, a.r, c.r, true)
		c.some(at, []byte{1, 2}, make([]bool, 2)) // stores nothing
		expectSame(t, a.r, c.r, true)
		expectSame(t, newPair(t, 4).r, c.r, true)
	}
}

// One byte makes two memories different, whichever it is, whether its page was written in both, in one of them first or in one alone.
func TestSameAsksForEachByte(t *testing.T) {
	for _, x := range []pair{newPair(t, 4), written(t, 4)} {
		f := x.fork()
		for addr := uint64(0x80000000); addr < 0x80004000; addr++ {
			v, _ := f.r.Word(addr, 1)
			f.put(addr, 1, v^1<<(addr%8))
			if x.r.Same(f.r) || f.r.Same(x.r) {
				t.Fatalf("P10.2: Same doesn't see the byte at %#x", addr)
			}
			f.put(addr, 1, v)
			if addr%61 == 0 {
				expectSame(t, x.r, f.r, true)
			}
		}
		expectSame(t, x.r, f.r, true)
	}
}

func TestSameInEachPage(t *testing.T) {
	for number := range uint64(256) {
		x, y := newPair(t, 256), newPair(t, 256)
		at := 0x80000000 + 0x1000*number + 0x10*(number%256)
		x.put(at, 4, 7)
		expectSame(t, x.r, y.r, false)
		y.put(at, 4, 8)
		expectSame(t, x.r, y.r, false)
		y.put(at, 4, 7)
		expectSame(t, x.r, y.r, true)
	}
}

// It doesn't matter in which order the bytes were written, or that others were there ahead of them.
func TestSameWhateverWasDoneBefore(t *testing.T) {
	x, y := newPair(t, 4), newPair(t, 4)
	x.write(0x80000000, pattern(0x3800, 0))
	y.write(0x80000000, pattern(0x4000, 60))
	for i := range 7 {
		at := 0x800 * (6 - i)
		y.write(0x80000000+uint64(at), pattern(0x3800, 0)[at:at+0x800])
	}
	expectSame(t, x.r, y.r, false)
	y.write(0x80003800, make([]byte, 0x800))
	expectSame(t, x.r, y.r, true)
}

// To ask alters nothing.
func TestAskingAltersNothing(t *testing.T) {
	x := written(t, 4)
	for range 3 {
		x.r.Pages()
		x.r.Read(0x80000000, 0x4000)
		x.r.Read(0x80002000, 0x1000)
		x.r.Word(0x80002000, 8)
		x.r.Same(newPair(t, 4).r)
		newPair(t, 4).r.Same(x.r)
		x.r.Fork()
		x.whole()
	}
	if e := x.r.Write(0x80002000, []byte{1}); e != api.OK {
		t.Errorf("P10.1: Write to a page that was read alone: error %d", e)
	}
}
