package plic

import (
	"testing"

	"tappet/api"
)

// source is what the chapter tells of one.
type source struct {
	prio             uint64
	pending, claimed bool
	enabled          [2]bool
}

// plain is a device as the chapter tells of it, source by source; that of number 0 stays as it is.
type plain struct {
	sources [8]source
	thresh  [2]uint64
}

// is reports whether bit n of v is set; that of 2^n.
func is(v uint64, n int) bool {
	for range n {
		v /= 2
	}
	return v%2 == 1
}

func (p *plain) tick(levels uint32) {
	for s := 1; s <= 7; s++ {
		if is(uint64(levels), s) && !p.sources[s].claimed {
			p.sources[s].pending = true
		}
	}
}

// best goes through the priorities from the highest on down to 1, and through the sources of each.
func (p *plain) best(ctx int) int {
	if ctx != 0 && ctx != 1 {
		return 0
	}
	for prio := uint64(7); prio >= 1; prio-- {
		for s := 1; s <= 7; s++ {
			if p.sources[s].prio == prio && p.sources[s].pending && p.sources[s].enabled[ctx] {
				return s
			}
		}
	}
	return 0
}

func (p *plain) lines() uint64 {
	sum := uint64(0)
	for ctx, line := range []uint64{0x800, 0x200} {
		if s := p.best(ctx); s != 0 && p.sources[s].prio > p.thresh[ctx] {
			sum += line
		}
	}
	return sum
}

// set is the number of those bits whose sources are of that kind.
func (p *plain) set(of func(source) bool) uint64 {
	sum, weight := uint64(0), uint64(1)
	for _, s := range p.sources {
		if of(s) {
			sum += weight
		}
		weight *= 2
	}
	return sum
}

func (p *plain) pendings() uint64 { return p.set(func(s source) bool { return s.pending }) }

func (p *plain) claims() uint64 { return p.set(func(s source) bool { return s.claimed }) }

func (p *plain) enables(ctx int) uint64 { return p.set(func(s source) bool { return s.enabled[ctx] }) }

func (p *plain) state() api.Devices {
	d := api.Devices{Pending: uint32(p.pendings()), Claimed: uint32(p.claims())}
	for s := range 8 {
		d.Prio[s] = uint32(p.sources[s].prio)
	}
	for ctx := range 2 {
		d.Enable[ctx], d.Thresh[ctx] = uint32(p.enables(ctx)), uint32(p.thresh[ctx])
	}
	return d
}

// row is the index of the row of the table to which an access belongs, or -1.
func row(off uint64, size int) int {
	for i, r := range registers {
		if off == r.off && size == 4 {
			return i
		}
	}
	return -1
}

func (p *plain) read(off uint64, size int) (uint64, api.Errno) {
	i := row(off, size)
	if i < 0 {
		return 0, 6
	}
	switch n := registers[i].of; registers[i].what {
	case aPriority:
		return p.sources[n].prio, 0
	case thePending:
		return p.pendings(), 0
	case anEnable:
		return p.enables(n), 0
	case aThreshold:
		return p.thresh[n], 0
	default:
		s := p.best(n)
		if s != 0 {
			p.sources[s].pending, p.sources[s].claimed = false, true
		}
		return uint64(s), 0
	}
}

func (p *plain) write(off uint64, size int, v uint64) api.Errno {
	i := row(off, size)
	if i < 0 || registers[i].what == thePending {
		return 6
	}
	switch n := registers[i].of; registers[i].what {
	case aPriority:
		p.sources[n].prio = v % 8
	case anEnable:
		for s := 1; s <= 7; s++ {
			p.sources[s].enabled[n] = is(v, s)
		}
	case aThreshold:
		p.thresh[n] = v % 8
	case aClaim:
		s := v % 0x100000000
		if s >= 1 && s <= 7 && p.sources[s].claimed && p.sources[s].enabled[n] {
			p.sources[s].claimed = false
		}
	}
	return 0
}

// same reports whether a and b hold the same, and nothing beside what a plic holds.
func same(a, b api.Devices) bool {
	ours := a.Prio == b.Prio && a.Pending == b.Pending && a.Claimed == b.Claimed && a.Enable == b.Enable && a.Thresh == b.Thresh
	return ours && empty(a) && empty(b)
}

// empty reports whether what other devices hold is zero.
func empty(d api.Devices) bool {
	return !d.Msip && d.Mtime == 0 && d.Cmp == 0 && d.Lines == 0 && len(d.Rx) == 0 && len(d.Tx) == 0 && d.UartEnable == 0 && !d.Lost
}

// pair is a device and a plain one: what is done with it is done with both, which must answer alike.
type pair struct {
	t *testing.T
	c *Plic
	p *plain
}

func newPair(t *testing.T) pair {
	t.Helper()
	c := New()
	if c == nil {
		t.Fatal("P12.1: New returns no device")
	}
	return pair{t, c, &plain{}}
}

// fork is a pair that goes on by itself from where x is.
func (x pair) fork() pair {
	y := pair{x.t, new(Plic), new(plain)}
	*y.c, *y.p = *x.c, *x.p
	return y
}

func (x pair) read(off uint64, size int) uint64 {
	x.t.Helper()
	was := *x.p
	v, e := x.c.Read(off, size)
	if want, no := x.p.read(off, size); v != want || e != no {
		x.t.Fatalf("P12.2: with %+v, Read(%#x, %d) = %#x, error %d; want %#x, error %d", was, off, size, v, e, want, no)
	}
	return v
}

func (x pair) write(off uint64, size int, v uint64) {
	x.t.Helper()
	e := x.c.Write(off, size, v)
	if no := x.p.write(off, size, v); e != no {
		x.t.Fatalf("P12.2: Write(%#x, %d, %#x): error %d, want %d", off, size, v, e, no)
	}
}

func (x pair) tick(levels uint32) {
	x.c.Tick(levels)
	x.p.tick(levels)
}

// heard asks for what the contexts hear of.
func (x pair) heard() {
	x.t.Helper()
	for ctx := -1; ctx <= 2; ctx++ {
		if got, want := x.c.Best(ctx), x.p.best(ctx); got != want {
			x.t.Fatalf("P12.1: with %+v, Best(%d) = %d, want %d", *x.p, ctx, got, want)
		}
	}
	if got, want := x.c.Lines(), x.p.lines(); got != want {
		x.t.Fatalf("P12.1: with %+v, Lines() = %#x, want %#x", *x.p, got, want)
	}
}

// all asks for whatever can be asked for without a claim; twice, for to ask alters nothing.
func (x pair) all() {
	x.t.Helper()
	for range 2 {
		if got, want := x.c.State(), x.p.state(); !same(got, want) {
			x.t.Fatalf("P12.2: State() = %+v, want %+v", got, want)
		}
		x.heard()
		for _, r := range registers {
			if r.what != aClaim {
				x.read(r.off, 4)
			}
		}
	}
}
