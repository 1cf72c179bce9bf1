package csr

import (
	"testing"

	"tappet/api"
)

func TestPending(t *testing.T) {
	for i := range 64 {
		want := uint64(0)
		switch i {
		case api.IntMS, api.IntMT, api.IntSE, api.IntME:
			want = 1 << i
		}
		if got := Pending(api.Csrs{}, api.Env{Lines: 1 << i}); got != want {
			t.Fatalf("P7.3: Pending of the line %d: %#x, want %#x", i, got, want)
		}
		if got := Pending(api.Csrs{Ip: 1 << i}, api.Env{}); got != 1<<i {
			t.Fatalf("P7.3: Pending of bit %d of Ip: %#x", i, got)
		}
		if got := Pending(api.Csrs{Ip: 1 << i}, api.Env{Lines: all}); got != 0xa88|1<<i {
			t.Fatalf("P7.3: Pending of bit %d of Ip and all lines: %#x", i, got)
		}
	}
	for _, c := range states() {
		for _, e := range envs() {
			if got, want := Pending(c, e), plainPending(c, e); got != want {
				t.Fatalf("P7.3: Pending(%+v, %+v) = %#x, want %#x", c, e, got, want)
			}
		}
	}
}

func TestCycle(t *testing.T) {
	for _, r := range []struct{ cycle, at, now, want uint64 }{
		{0, 0, 0, 0},
		{100, 10, 15, 105},
		{100, 10, 10, 100},
		{100, 15, 10, 95},
		{2, 15, 10, all - 2},
		{all, 10, 11, 0},
		{all, 0, all, all - 1},
		{5, all, 0, 6},
		{0, 1, 0, all},
		{1 << 63, 0, 1 << 63, 0},
	} {
		for bit := range 64 {
			for _, inhibit := range []uint64{0, 1 << bit, all - 1<<bit} {
				c, want := full(), r.want
				c.Cycle, c.At, c.Inhibit = r.cycle, r.at, inhibit
				if inhibit%2 == 1 {
					want = r.cycle
				}
				e := api.Env{Cycle: r.now, Time: 999}
				if got := Cycle(c, e); got != want {
					t.Fatalf("P7.3: Cycle(%+v, %+v) = %d, want %d", c, e, got, want)
				}
				wantRead(t, c, api.CsrMcycle, api.Machine, e, want)
				wantRead(t, c, api.CsrCycle, api.Machine, e, want)
			}
		}
	}
}

// mcycle written is the count from then on, unless it is inhibited.
func TestCycleWritten(t *testing.T) {
	for _, inhibit := range []uint64{0, 1} {
		for _, v := range []uint64{0, 1, 1000, all} {
			c := full()
			c.Inhibit = inhibit
			d := c
			d.Cycle, d.At = v, 70
			wantWrite(t, c, api.CsrMcycle, api.Machine, v, api.Env{Cycle: 70}, d)
			wantRead(t, d, api.CsrMcycle, api.Machine, api.Env{Cycle: 70}, v)
			wantRead(t, d, api.CsrMcycle, api.Machine, api.Env{Cycle: 75}, v+5*(1-inhibit))
		}
	}
}

// Written while the counter runs and while it stands, to let it run and to let it stand.
func TestInhibitWritten(t *testing.T) {
	for _, r := range []struct{ before, v, inhibit, cycle, later uint64 }{
		{0, 0, 0, 120, 150},
		{0, 1, 1, 120, 120},
		{0, all, 0x7d, 120, 120},
		{0, 0x7c, 0x7c, 120, 150},
		{0, 2, 0, 120, 150},
		{1, 0, 0, 100, 130},
		{1, 1, 1, 100, 100},
		{0x7d, all, 0x7d, 100, 100},
		{0x7d, 0x7e, 0x7c, 100, 130},
		{4, 1 << 63, 0, 120, 150},
	} {
		c := full()
		c.Inhibit, c.Cycle, c.At = r.before, 100, 10
		d := c
		d.Inhibit, d.Cycle, d.At = r.inhibit, r.cycle, 30
		wantWrite(t, c, api.CsrInhibit, api.Machine, r.v, api.Env{Cycle: 30}, d)
		wantRead(t, d, api.CsrInhibit, api.Machine, api.Env{Cycle: 60}, r.inhibit)
		wantRead(t, d, api.CsrMcycle, api.Machine, api.Env{Cycle: 30}, r.cycle)
		wantRead(t, d, api.CsrMcycle, api.Machine, api.Env{Cycle: 60}, r.later)
	}
}

// The counter stands from the one write to the other, and goes on from where it stood.
func TestInhibitedForAWhile(t *testing.T) {
	c := after(t, Reset(), api.CsrMcycle, all-4, api.Env{Cycle: 100})
	c = after(t, c, api.CsrInhibit, 1, api.Env{Cycle: 108})
	wantRead(t, c, api.CsrMcycle, api.Machine, api.Env{Cycle: 500}, 3)
	c = after(t, c, api.CsrInhibit, 0, api.Env{Cycle: 200})
	wantRead(t, c, api.CsrMcycle, api.Machine, api.Env{Cycle: 200}, 3)
	wantRead(t, c, api.CsrMcycle, api.Machine, api.Env{Cycle: 207}, 10)
}

func TestCount(t *testing.T) {
	for _, instret := range []uint64{0, 41, 1<<32 - 1, 1<<63 - 1, all} {
		for bit := range 64 {
			for _, inhibit := range []uint64{0, 1 << bit, all - 1<<bit, all} {
				for _, retired := range []bool{false, true} {
					for _, wrote := range []bool{false, true} {
						c := full()
						c.Instret, c.Inhibit = instret, inhibit
						want := c
						if retired && !wrote && inhibit>>2%2 == 0 {
							want.Instret = instret + 1
						}
						if got := Count(c, retired, wrote); got != want {
							t.Fatalf("P7.3: Count(%+v, %t, %t) = %+v", c, retired, wrote, got)
						}
					}
				}
			}
		}
	}
	if got := Count(api.Csrs{Instret: all}, true, false); got != (api.Csrs{}) {
		t.Fatalf("P7.3: Count at 2^64 - 1: %+v", got)
	}
}
