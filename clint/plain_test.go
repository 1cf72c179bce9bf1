package clint

import (
	"testing"

	"tappet/api"
)

// plain is a device as the chapter tells of it: for each row of its table, what is in the register.
type plain struct {
	soft bool
	cmp  uint64
	now  uint64
}

func newPlain() *plain { return &plain{cmp: 0xffffffffffffffff} }

// register is the row of the table to which an access belongs, or 0.
func register(off uint64, size int) int {
	for i, r := range registers {
		if off == r.off && size == r.size {
			return i + 1
		}
	}
	return 0
}

func (p *plain) read(off uint64, size int) (uint64, api.Errno) {
	switch register(off, size) {
	case 1:
		if p.soft {
			return 1, 0
		}
		return 0, 0
	case 2:
		return p.cmp, 0
	case 3:
		return p.now, 0
	}
	return 0, 6
}

func (p *plain) write(off uint64, size int, v uint64) api.Errno {
	switch register(off, size) {
	case 1:
		p.soft = v%2 == 1
	case 2:
		p.cmp = v
	case 3:
		p.now = v
	default:
		return 6
	}
	return 0
}

func (p *plain) tick() {
	if p.now == 0xffffffffffffffff {
		p.now = 0
		return
	}
	p.now++
}

func (p *plain) lines() uint64 {
	switch {
	case p.soft && p.now < p.cmp:
		return 0x8
	case p.soft:
		return 0x88
	case p.now < p.cmp:
		return 0
	}
	return 0x80
}

// pair is a device and a plain one: what is done with it is done with both, which must answer alike.
type pair struct {
	t *testing.T
	c *Clint
	p *plain
}

func newPair(t *testing.T) pair {
	t.Helper()
	c := New()
	if c == nil {
		t.Fatal("P11.1: New returns no device")
	}
	return pair{t, c, newPlain()}
}

// pairWith is a pair whose registers hold these values.
func pairWith(t *testing.T, soft, cmp, now uint64) pair {
	t.Helper()
	x := newPair(t)
	x.write(0, 4, soft)
	x.write(0x4000, 8, cmp)
	x.write(0xbff8, 8, now)
	return x
}

func (x pair) read(off uint64, size int) {
	x.t.Helper()
	v, e := x.c.Read(off, size)
	if want, no := x.p.read(off, size); v != want || e != no {
		x.t.Fatalf("P11.1: Read(%#x, %d) = %#x, error %d; want %#x, error %d", off, size, v, e, want, no)
	}
}

func (x pair) write(off uint64, size int, v uint64) {
	x.t.Helper()
	e := x.c.Write(off, size, v)
	if no := x.p.write(off, size, v); e != no {
		x.t.Fatalf("P11.1: Write(%#x, %d, %#x): error %d, want %d", off, size, v, e, no)
	}
}

func (x pair) tick() {
	x.c.Tick()
	x.p.tick()
}

// all asks for whatever can be asked for; twice, for to ask alters nothing.
func (x pair) all() {
	x.t.Helper()
	for range 2 {
		soft, now, cmp := x.c.State()
		if soft != x.p.soft || now != x.p.now || cmp != x.p.cmp {
			x.t.Fatalf("P11.1: State() = %t, %#x, %#x; want %t, %#x, %#x", soft, now, cmp, x.p.soft, x.p.now, x.p.cmp)
		}
		if got := x.c.Time(); got != x.p.now {
			x.t.Fatalf("P11.1: Time() = %#x, want %#x", got, x.p.now)
		}
		if got, want := x.c.Lines(), x.p.lines(); got != want {
			x.t.Fatalf("P11.1: with %t, mtimecmp %#x and mtime %#x, Lines() = %#x, want %#x", soft, cmp, now, got, want)
		}
		for _, r := range registers {
			x.read(r.off, r.size)
		}
	}
}
