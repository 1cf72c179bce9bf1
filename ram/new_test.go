package ram

import (
	"testing"

	"tappet/api"
)

func TestNewOfEachNumberOfPages(t *testing.T) {
	for pages := 4; pages <= 256; pages++ {
		x := newPair(t, pages)
		if got := x.r.Pages(); got != pages {
			t.Errorf("P10.1: New(%d): Pages() = %d", pages, got)
		}
		x.whole()
		x.read(x.p.last(), 1)
		x.read(x.p.last()+1, 1)
		x.read(x.p.last(), 2)
	}
}

func TestNewRefuses(t *testing.T) {
	for pages := -300; pages < 600; pages++ {
		if r, e := New(pages); (pages < 4 || pages > 256) && (r != nil || e != api.ErrArg) {
			t.Errorf("P10.1: New(%d): a memory: %t, error %d", pages, r != nil, e)
		}
	}
	for _, pages := range append(tooFew[:], tooMany[:]...) {
		if r, e := New(pages); r != nil || e != api.ErrArg {
			t.Errorf("P10.1: New(%d): a memory: %t, error %d", pages, r != nil, e)
		}
	}
}

func TestNewAtItsLimits(t *testing.T) {
	for _, row := range []struct {
		pages int
		e     api.Errno
		last  uint64
	}{{3, 1, 0}, {4, 0, 0x80003fff}, {5, 0, 0x80004fff}, {255, 0, 0x800fefff}, {256, 0, 0x800fffff}, {257, 1, 0}} {
		r, e := New(row.pages)
		if e != row.e || (r != nil) != (e == 0) {
			t.Fatalf("P10.1: New(%d): error %d", row.pages, e)
		}
		if e != 0 {
			continue
		}
		if b, e := r.Read(row.last, 1); len(b) != 1 || e != 0 {
			t.Errorf("P10.1: of %d pages, the byte at %#x isn't there: error %d", row.pages, row.last, e)
		}
		if b, e := r.Read(row.last+1, 1); len(b) != 0 || e != 6 {
			t.Errorf("P10.1: of %d pages, there is a byte at %#x: error %d", row.pages, row.last+1, e)
		}
	}
}

// What is written doesn't alter how many pages there are.
func TestPagesStay(t *testing.T) {
	for _, pages := range few {
		x := newPair(t, pages)
		for _, addr := range anywhere(pages) {
			x.write(addr, []byte{1, 2, 3})
			if got := x.r.Pages(); got != pages {
				t.Fatalf("P10.1: of %d pages, behind Write at %#x, Pages() = %d", pages, addr, got)
			}
		}
	}
}

// A memory takes no part in what is done with another one.
func TestMemoriesAreApart(t *testing.T) {
	x, y := newPair(t, 4), newPair(t, 4)
	x.write(0x80000ffe, []byte{1, 2, 3, 4})
	y.whole()
	y.write(0x80000fff, []byte{5, 6})
	x.whole()
	y.whole()
	newPair(t, 4).whole()
}

// A nil memory refuses all, whatever else speaks against it.
func TestNilMemory(t *testing.T) {
	var r *Ram
	if got := r.Pages(); got != 0 {
		t.Errorf("P10.1: of nil, Pages() = %d", got)
	}
	for _, addr := range anywhere(4) {
		for _, n := range append(append([]int{0, 1, 8, 16384}, belowZero[:]...), great[:]...) {
			if b, e := r.Read(addr, n); len(b) != 0 || e != api.ErrNil {
				t.Errorf("P10.1: of nil, Read(%#x, %d): %d bytes, error %d", addr, n, len(b), e)
			}
		}
		for _, b := range [][]byte{nil, {}, {1}, pattern(8, 0), pattern(20000, 0)} {
			for _, strobe := range [][]bool{nil, {true}, all(len(b)), make([]bool, 9)} {
				if e := r.Some(addr, b, strobe); e != api.ErrNil {
					t.Errorf("P10.1: of nil, Some(%#x, %d bytes, %d bools): error %d", addr, len(b), len(strobe), e)
				}
			}
			if e := r.Write(addr, b); e != api.ErrNil {
				t.Errorf("P10.1: of nil, Write(%#x, %d bytes): error %d", addr, len(b), e)
			}
		}
		for _, size := range append(noSizes[:], sizes[:]...) {
			v, e := r.Word(addr, size)
			if f := r.Put(addr, size, 1); v != 0 || e != api.ErrNil || f != api.ErrNil {
				t.Errorf("P10.2: of nil, at %#x with size %d: Word %#x, error %d; Put error %d", addr, size, v, e, f)
			}
		}
	}
	if r.Fork() != nil {
		t.Error("P10.2: Fork of nil is none")
	}
}

// A Ram that New didn't make has no pages: it takes no bytes, and gives none.
func TestRamThatWasNotMade(t *testing.T) {
	var r Ram
	for _, addr := range anywhere(4) {
		for n := 1; n < 10; n++ {
			b, e := r.Read(addr, n)
			f, g := r.Write(addr, pattern(n, 0)), r.Some(addr, pattern(n, 0), all(n))
			if len(b) != 0 || e != api.ErrBus || f != api.ErrBus || g != api.ErrBus {
				t.Errorf("R1: without pages, %d bytes at %#x: errors %d, %d, %d", n, addr, e, f, g)
			}
		}
		for _, size := range sizes {
			at := addr - addr%uint64(size)
			v, e := r.Word(at, size)
			if f := r.Put(at, size, 1); v != 0 || e != api.ErrBus || f != api.ErrBus {
				t.Errorf("R1: without pages, at %#x with size %d: errors %d, %d", at, size, e, f)
			}
		}
		if b, e := r.Read(addr, 0); len(b) != 0 || e != api.OK || r.Write(addr, nil) != api.OK || r.Some(addr, nil, nil) != api.OK {
			t.Errorf("R1: without pages, no bytes at %#x are refused", addr)
		}
	}
	if f := r.Fork(); r.Pages() != 0 || !r.Same(f) || r.Same(nil) || newPair(t, 4).r.Same(&r) {
		t.Error("R1: a memory without pages, or its copy, is no such one")
	}
}
