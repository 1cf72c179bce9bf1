package plic

import (
	"testing"

	"tappet/api"
)

// both is what a register of each context holds.
type both = [2]uint64

// made is a device with these registers, after one Tick of levels; prio is that of the sources from 1 on.
func made(t *testing.T, prio [7]uint64, enable, thresh both, levels uint32) *Plic {
	t.Helper()
	c := New()
	for s, v := range prio {
		if e := c.Write(uint64(4*s+4), 4, v); e != api.OK {
			t.Fatalf("P12.2: the priority of source %d is refused: error %d", s+1, e)
		}
	}
	for ctx := range 2 {
		if e, f := c.Write(enableOf[ctx], 4, enable[ctx]), c.Write(thresholdOf[ctx], 4, thresh[ctx]); e != api.OK || f != api.OK {
			t.Fatalf("P12.2: the registers of context %d are refused: errors %d, %d", ctx, e, f)
		}
	}
	c.Tick(levels)
	return c
}

func TestBestByHand(t *testing.T) {
	none, every := both{}, both{0xfe, 0xfe}
	one := [7]uint64{1, 1, 1, 1, 1, 1, 1}
	up := [7]uint64{1, 2, 3, 4, 5, 6, 7}
	down := [7]uint64{7, 6, 5, 4, 3, 2, 1}
	mixed := [7]uint64{0, 3, 5, 5, 3, 0, 5}
	for _, row := range []struct {
		prio           [7]uint64
		enable, thresh both
		levels         uint32
		m, s           int
		lines          uint64
	}{
		{one, every, none, 0, 0, 0, 0},        // nothing is pending
		{one, every, none, 0xfe, 1, 1, 0xa00}, // the smallest one of several
		{one, every, none, 0xe0, 5, 5, 0xa00},
		{one, both{0xf0, 0xc}, none, 0xfe, 4, 2, 0xa00}, // of those that are enabled
		{one, both{0xf0, 0xc}, none, 0x8, 0, 3, 0x200},  // pending, and not enabled
		{one, both{0x80, 0}, none, 0x80, 7, 0, 0x800},
		{one, both{0x2, 0x80}, none, 0x7c, 0, 0, 0}, // enabled, and not pending
		{one, every, both{1, 0}, 0x4, 2, 2, 0x200},  // at the threshold
		{one, every, both{0, 1}, 0x4, 2, 2, 0x800},
		{up, every, none, 0xfe, 7, 7, 0xa00}, // the highest priority
		{up, both{0x7e, 0x3e}, none, 0xfe, 6, 5, 0xa00},
		{up, every, none, 0x1e, 4, 4, 0xa00},
		{up, every, both{3, 4}, 0x1e, 4, 4, 0x800}, // one above it, at it
		{up, every, both{5, 3}, 0x1e, 4, 4, 0x200}, // one below it, one above it
		{up, every, both{7, 7}, 0xfe, 7, 7, 0},
		{up, every, both{6, 7}, 0xfe, 7, 7, 0x800},
		{down, every, none, 0xfe, 1, 1, 0xa00},
		{down, both{0xfc, 0xf0}, both{5, 4}, 0xfe, 2, 4, 0x800},
		{mixed, every, none, 0xfe, 3, 3, 0xa00},
		{mixed, both{0xf6, 0x64}, both{4, 3}, 0xfe, 4, 2, 0x800},
		{mixed, both{0x42, 0x62}, none, 0xfe, 0, 5, 0x200}, // those of priority 0 count for nothing
		{mixed, every, none, 0x42, 0, 0, 0},
		{mixed, both{0x80, 0x24}, none, 0xfe, 7, 2, 0xa00},
		{[7]uint64{}, every, none, 0xfe, 0, 0, 0},
		{[7]uint64{8}, every, none, 0xfe, 0, 0, 0}, // its three bits are 0
		{one, every, both{8, 8}, 0x10, 4, 4, 0xa00},
		{one, every, none, 0xffffff01, 0, 0, 0},                 // no source's levels
		{one, both{1, 0xffffffffffffff00}, none, 0xff, 0, 0, 0}, // no source's bits
		{up, both{1<<64 - 1, 1<<64 - 1}, none, 1, 0, 0, 0},
		{one, both{1<<64 - 1, 1<<64 - 1}, none, 0x101, 0, 0, 0},
		{one, every, both{7, 7}, 0xfe, 1, 1, 0},
		{[7]uint64{7, 0, 7}, both{0xfc, 4}, none, 0xe, 3, 0, 0x800},
	} {
		c := made(t, row.prio, row.enable, row.thresh, row.levels)
		if c.Best(0) != row.m || c.Best(1) != row.s || c.Lines() != row.lines {
			t.Errorf("P12.1: with priorities %v, enabled %x, thresholds %v and levels %#x, Best is %d and %d, Lines() = %#x; want %d, %d, %#x",
				row.prio, row.enable, row.thresh, row.levels, c.Best(0), c.Best(1), c.Lines(), row.m, row.s, row.lines)
		}
	}
}

func TestContextsThatAreNone(t *testing.T) {
	x := busy(t)
	full := made(t, [7]uint64{7, 7, 7, 7, 7, 7, 7}, both{0xfe, 0xfe}, both{}, 0xfe)
	for _, ctx := range noContexts {
		if a, b, c := x.c.Best(ctx), full.Best(ctx), New().Best(ctx); a != 0 || b != 0 || c != 0 {
			t.Errorf("P12.1: Best(%d) = %d, %d, %d", ctx, a, b, c)
		}
	}
	x.all()
}

// Two sources, with all their priorities, pending or not, enabled or not, and with each threshold.
func TestTwoSources(t *testing.T) {
	for a := 1; a <= 7; a++ {
		for b := a + 1; b <= 7; b++ {
			x := newPair(t)
			for i := range uint64(64) {
				x.write(uint64(4*a), 4, i%8)
				x.write(uint64(4*b), 4, i/8)
				bothWays(x, a, b)
			}
			x.all()
		}
	}
}

// bothWays goes through what can be enabled and pending of sources a and b, and through the thresholds.
func bothWays(x pair, a, b int) {
	x.t.Helper()
	for j := range uint64(16) {
		x.write(0x2000, 4, j%2<<a|j/2%2<<b)
		x.write(0x2080, 4, j/4%2<<a|j/8%2<<b)
		for _, levels := range []uint32{1 << a, 1 << b, 1<<a | 1<<b} {
			y := x.fork()
			y.tick(levels)
			for th := range uint64(8) {
				y.write(0x200000, 4, th)
				y.write(0x201000, 4, 7-th)
				y.heard()
			}
		}
	}
}

// Each set of sources that can be pending, with each that can be enabled, of several priorities.
func TestAllSetsOfSources(t *testing.T) {
	for _, prio := range [][7]uint64{{1, 1, 1, 1, 1, 1, 1}, {0, 3, 5, 5, 3, 0, 5}, {7, 6, 5, 4, 3, 2, 1}, {1, 2, 3, 4, 5, 6, 7}} {
		x := newPair(t)
		for s, v := range prio {
			x.write(uint64(4*s+4), 4, v)
		}
		for levels := range uint32(128) {
			y := x.fork()
			y.tick(levels * 2)
			for enable := range uint64(128) {
				y.write(0x2000, 4, enable*2)
				y.write(0x2080, 4, 0xfe-enable*2)
				y.write(0x200000, 4, enable)
				y.heard()
			}
		}
	}
}

// Each level makes its own source pending, and no other; one that is none makes none.
func TestTickByHand(t *testing.T) {
	for bit := range 32 {
		want := uint32(0)
		if bit >= 1 && bit <= 7 {
			want = 1 << bit
		}
		c := New()
		c.Tick(1 << bit)
		if got := c.State(); !same(got, api.Devices{Pending: want}) {
			t.Errorf("P12.1: after Tick(%#x), State() = %+v", uint32(1)<<bit, got)
		}
		d := New()
		d.Tick(^uint32(1 << bit))
		if got := d.State(); !same(got, api.Devices{Pending: 0xfe - want}) {
			t.Errorf("P12.1: after Tick(%#x), State() = %+v", ^uint32(1<<bit), got)
		}
	}
}

// A source that is pending stays so when its level falls, and more of them come to be so.
func TestPendingStays(t *testing.T) {
	c := New()
	sum := uint32(0)
	for _, levels := range []uint32{0, 0x10, 0, 0x2, 0x2, 0x12, 0x80, 0, 0x101, 0x44, 0} {
		c.Tick(levels)
		sum |= levels & 0xfe
		if got := c.State(); !same(got, api.Devices{Pending: sum}) {
			t.Errorf("P12.1: after Tick(%#x), State() = %+v, want %#x pending", levels, got, sum)
		}
	}
}

// Each set of levels, after each set of others, with each set of sources claimed.
func TestTickOfAllLevels(t *testing.T) {
	base := newPair(t)
	for s := range uint64(7) {
		base.write(4*s+4, 4, 1)
	}
	for claimed := range uint32(128) {
		x := base.fork()
		x.tick(claimed * 2)
		x.write(0x2000, 4, 0xfe)
		for range 7 {
			x.read(0x200004, 4)
		}
		if got := x.c.State(); got.Claimed != claimed*2 || got.Pending != 0 {
			t.Fatalf("P12.2: after claims of %#x, State() = %+v", claimed*2, got)
		}
		for levels := range uint32(256) {
			y := x.fork()
			y.tick(levels * 0x1010101)
			y.tick(levels>>4 | levels<<30)
			if got, want := y.c.State(), y.p.state(); !same(got, want) {
				t.Fatalf("P12.1: with %#x claimed, after ticks of %#x, State() = %+v, want %+v", claimed*2, levels, got, want)
			}
		}
	}
}
