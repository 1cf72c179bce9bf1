package muldiv

import (
	"math"
	"testing"

	"tappet/api"
)

// begun is a unit that is busy with an operation.
func begun(t *testing.T, fun int, word bool, a, b uint64) *Unit {
	t.Helper()
	u := New()
	if e := u.Start(fun, word, a, b); e != api.OK {
		t.Fatalf("P5.2: Start(%d, %t, %#x, %#x): error %d", fun, word, a, b, e)
	}
	return u
}

// ended is one that is done with it.
func ended(t *testing.T, fun int, word bool, a, b uint64) *Unit {
	t.Helper()
	u := begun(t, fun, word, a, b)
	for u.Step() {
	}
	return u
}

// idle fails unless u has nothing to step, to take or to drop.
func idle(t *testing.T, u *Unit) {
	t.Helper()
	if n := u.Left(); n != 0 {
		t.Fatalf("P5.2: Left of an idle unit: %d", n)
	}
	if u.Step() {
		t.Fatal("P5.2: an idle unit steps")
	}
	if v, ok := u.Take(); v != 0 || ok {
		t.Fatalf("P5.2: Take of an idle unit: %#x, %t", v, ok)
	}
	if u.Drop() {
		t.Fatal("P5.2: an idle unit is dropped")
	}
}

// finish steps u, of which left steps are to be done, one by one, and takes what comes of them.
func finish(t *testing.T, u *Unit, left int, want uint64) {
	t.Helper()
	for ; left > 0; left-- {
		if got := u.Left(); got != left {
			t.Fatalf("P5.2: Left is %d, want %d", got, left)
		}
		if v, ok := u.Take(); v != 0 || ok {
			t.Fatalf("P5.2: Take %d steps too early: %#x, %t", left, v, ok)
		}
		if !u.Step() {
			t.Fatalf("P5.2: no step, with %d left", left)
		}
	}
	if u.Left() != 0 || u.Step() || u.Left() != 0 {
		t.Fatal("P5.2: a unit that is done has steps left")
	}
	if v, ok := u.Take(); v != want || !ok {
		t.Fatalf("P5.2: Take: %#x, %t, want %#x", v, ok, want)
	}
	idle(t, u)
}

func TestNewIsIdle(t *testing.T) {
	idle(t, New())
	idle(t, &Unit{})
	if New() == New() {
		t.Error("R3: two new units are one")
	}
}

func TestLeftAfterStart(t *testing.T) {
	for _, c := range []struct {
		fun  int
		word bool
		a, b uint64
		want int
	}{
		{api.Mul, false, 0, 0, 64},
		{api.Mulh, false, least, all, 64},
		{api.Mulhsu, false, least, all, 64},
		{api.Mulhu, false, 0, 0, 64},
		{api.Mul, true, 1 << 31, all, 32},
		{api.Mul, true, 5, 0, 32},
		{api.Div, false, 9, 3, 64},
		{api.Divu, true, 9, 3, 32},
		{api.Div, false, 9, 0, 1},
		{api.Divu, false, 9, 0, 1},
		{api.Rem, false, 9, 0, 1},
		{api.Remu, false, 9, 0, 1},
		{api.Divu, false, 9, 1 << 32, 64},
		{api.Div, true, 9, 1 << 32, 1},
		{api.Divu, true, 9, least, 1},
		{api.Rem, true, 9, math.MaxUint32 << 32, 1},
		{api.Remu, true, 9, 0, 1},
		{api.Div, false, least, all, 1},
		{api.Rem, false, least, all, 1},
		{api.Divu, false, least, all, 64},
		{api.Remu, false, least, all, 64},
		{api.Div, false, least + 1, all, 64},
		{api.Div, false, least, all - 1, 64},
		{api.Div, false, least, 1, 64},
		{api.Div, false, all, least, 64},
		{api.Div, false, leastWord, all, 64},
		{api.Rem, false, 1 << 31, math.MaxUint32, 64},
		{api.Div, true, 1 << 31, math.MaxUint32, 1},
		{api.Rem, true, leastWord, all, 1},
		{api.Rem, true, least | 1<<31, 1<<40 | math.MaxUint32, 1},
		{api.Divu, true, 1 << 31, math.MaxUint32, 32},
		{api.Remu, true, leastWord, all, 32},
		{api.Div, true, least, all, 32},
		{api.Div, true, 1<<31 + 1, all, 32},
	} {
		if got := begun(t, c.fun, c.word, c.a, c.b).Left(); got != c.want {
			t.Errorf("P5.2: Left after Start(%d, %t, %#x, %#x) is %d, want %d", c.fun, c.word, c.a, c.b, got, c.want)
		}
	}
}

// One unit does it all, again and again.
func TestUnitEverywhere(t *testing.T) {
	u := New()
	for _, fun := range funs {
		for _, word := range []bool{false, true} {
			if !defined(fun, word) {
				continue
			}
			for _, a := range words() {
				for _, b := range words() {
					if e := u.Start(fun, word, a, b); e != api.OK {
						t.Fatalf("P5.2: Start(%d, %t, %#x, %#x): error %d", fun, word, a, b, e)
					}
					finish(t, u, plainSteps(fun, word, a, b), plainResult(fun, word, a, b))
				}
			}
		}
	}
}

func TestDrop(t *testing.T) {
	idle(t, New())
	for done := 0; done <= 32; done++ {
		u := begun(t, api.Remu, true, 9, 5)
		for range done {
			u.Step()
		}
		if !u.Drop() {
			t.Fatalf("P5.2: Drop behind %d steps of 32: false", done)
		}
		idle(t, u)
		if e := u.Start(api.Div, false, 9, 0); e != api.OK {
			t.Fatalf("P5.2: Start of a dropped unit: error %d", e)
		}
		finish(t, u, 1, all)
	}
}

// refused starts u with all that could be asked, right and wrong.
func refused(t *testing.T, u *Unit, want api.Errno) {
	t.Helper()
	for _, fun := range append(strange(), funs[:]...) {
		for _, word := range []bool{false, true} {
			if e := u.Start(fun, word, 5, 0); e != want {
				t.Fatalf("P5.2, R5: Start(%d, %t, ..): error %d, want %d", fun, word, e, want)
			}
		}
	}
}

func TestStartTwice(t *testing.T) {
	u := begun(t, api.Mulh, false, minus(3), 5)
	refused(t, u, api.ErrTwice)
	for range 30 {
		u.Step()
	}
	refused(t, u, api.ErrTwice)
	finish(t, u, 34, all)

	u = ended(t, api.Mul, true, 3, 5)
	refused(t, u, api.ErrTwice)
	finish(t, u, 0, 15)
}

func TestStartOfNone(t *testing.T) {
	u := New()
	for _, word := range []bool{false, true} {
		for _, fun := range append(strange(), funs[:]...) {
			if defined(fun, word) {
				continue
			}
			if e := u.Start(fun, word, 5, 0); e != api.ErrArg {
				t.Errorf("P5.2: Start(%d, %t, ..): error %d, want ErrArg", fun, word, e)
			}
			idle(t, u)
		}
	}
}

func TestUnitsAreApart(t *testing.T) {
	u := begun(t, api.Mul, false, 6, 7)
	v := begun(t, api.Remu, true, 9, 5)
	for range 10 {
		u.Step()
		v.Step()
	}
	w := *u
	finish(t, v, 22, 4)
	for range 20 {
		w.Step()
	}
	x := w
	w.Drop()
	finish(t, u, 54, 42)
	finish(t, &x, 34, 42)
	idle(t, &w)
}

func TestNilUnit(t *testing.T) {
	var u *Unit
	idle(t, u)
	refused(t, u, api.ErrNil)
}
