package muldiv

import (
	"tappet/api"
)

// Steps that a unit takes: a division whose result is known without dividing takes one.
const (
	shortSteps  = 1
	narrowSteps = narrowBits
	wideSteps   = wideBits
)

// Unit performs an operation in several steps. Its zero value is idle.
type Unit struct {
	step  func(*Unit) // of the operation that is under way; nil, if none is
	left  int
	done  bool
	value uint64
}

// New returns an idle unit.
func New() *Unit { return &Unit{} }

// Start makes u busy with an operation, or answers why it can't.
func (u *Unit) Start(fun int, word bool, a, b uint64) api.Errno {
	t := prepare(fun, word, a, b)
	switch {
	case u == nil:
		return api.ErrNil
	case u.busy() || u.done:
		return api.ErrTwice
	case !t.defined():
		return api.ErrArg
	}
	*u = Unit{step: t.step, left: t.steps()}
	return api.OK
}

// Left returns how many steps u still needs; 0, if it is not busy.
func (u *Unit) Left() int {
	if u == nil {
		return 0
	}
	return u.left
}

// Step performs a step of u; false, if it is not busy.
func (u *Unit) Step() bool {
	if !u.busy() {
		return false
	}
	u.step(u)
	return true
}

// Take returns the result of u, which is idle then; false, if it is not done.
func (u *Unit) Take() (uint64, bool) {
	if u == nil || !u.done {
		return 0, false
	}
	v := u.value
	*u = Unit{}
	return v, true
}

// Drop makes u idle; false, if it was.
func (u *Unit) Drop() bool {
	if u == nil || !u.busy() && !u.done {
		return false
	}
	*u = Unit{}
	return true
}

func (u *Unit) busy() bool { return u != nil && u.step != nil }

// step is handed the unit instead of knowing it, so that a copy of a busy unit goes on by itself.
func (t task) step(u *Unit) {
	u.left--
	if u.left == 0 {
		*u = Unit{done: true, value: t.result()}
	}
}

func (t task) steps() int {
	switch {
	case t.divides() && (t.b == 0 || t.overflows()):
		return shortSteps
	case t.word:
		return narrowSteps
	}
	return wideSteps
}

// overflows reports whether the quotient is beyond the greatest signed number.
func (t task) overflows() bool {
	least := wideLeast
	if t.word {
		least = narrowLeast
	}
	switch t.fun {
	case api.Div, api.Rem:
		return t.a == least && t.b == minusOne
	}
	return false
}
