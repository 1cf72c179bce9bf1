package plic

import (
	"testing"

	"tappet/api"
)

// claimed is a pair in which source s, of priority 1, was claimed by that context, and nothing else is pending; both contexts have it enabled.
func claimed(t *testing.T, ctx, s int) pair {
	t.Helper()
	x := newPair(t)
	x.write(uint64(4*s), 4, 1)
	x.write(0x2000, 4, 1<<s)
	x.write(0x2080, 4, 1<<s)
	x.tick(1 << s)
	if got := x.read(claimOf[ctx], 4); got != uint64(s) {
		t.Fatalf("P12.2: context %d claims %d, want %d", ctx, got, s)
	}
	return x
}

func TestClaimTakesTheBest(t *testing.T) {
	c := made(t, [7]uint64{0, 3, 5, 5, 3, 0, 5}, both{0xfe, 0xec}, both{}, 0xfe)
	for i, row := range []struct {
		ctx              int
		want             uint64
		pending, claimed uint32
		lines            uint64
	}{
		{0, 3, 0xf6, 0x08, 0xa00},
		{1, 7, 0x76, 0x88, 0xa00}, // 4 has the same priority, but isn't enabled there
		{1, 2, 0x72, 0x8c, 0xa00},
		{0, 4, 0x62, 0x9c, 0xa00},
		{1, 5, 0x42, 0xbc, 0},
		{0, 0, 0x42, 0xbc, 0}, // what is left has priority 0
		{1, 0, 0x42, 0xbc, 0},
	} {
		v, e := c.Read(claimOf[row.ctx], 4)
		got := c.State()
		if v != row.want || e != api.OK || got.Pending != row.pending || got.Claimed != row.claimed || c.Lines() != row.lines {
			t.Errorf("P12.2: claim %d, of context %d, is %d, error %d; then State() = %+v, Lines() = %#x; want %+v", i, row.ctx, v, e, got, c.Lines(), row)
		}
	}
}

// Both contexts hear of the same source; the one that claims first gets it, the other one nothing.
func TestBothContextsAtOneSource(t *testing.T) {
	for first := range 2 {
		c := made(t, [7]uint64{0, 0, 0, 2}, both{0x10, 0x10}, both{}, 0x10)
		if c.Best(0) != 4 || c.Best(1) != 4 || c.Lines() != 0xa00 {
			t.Errorf("P12.1: Best is %d and %d, Lines() = %#x", c.Best(0), c.Best(1), c.Lines())
		}
		a, e := c.Read(claimOf[first], 4)
		b, f := c.Read(claimOf[1-first], 4)
		if a != 4 || b != 0 || e != api.OK || f != api.OK || c.Lines() != 0 {
			t.Errorf("P12.2: context %d claims %d, error %d; then the other one %d, error %d; Lines() = %#x", first, a, e, b, f, c.Lines())
		}
	}
}

// A claim asks the threshold nothing: it takes what Best returns.
func TestClaimBelowTheThreshold(t *testing.T) {
	for ctx := range 2 {
		for th := range uint64(8) {
			c := made(t, [7]uint64{4, 3}, both{0xfe, 0xfe}, both{th, th}, 6)
			if v, e := c.Read(claimOf[ctx], 4); v != 1 || e != api.OK || c.State().Claimed != 2 {
				t.Errorf("P12.2: with threshold %d, context %d claims %d, error %d", th, ctx, v, e)
			}
		}
	}
}

// A claim that gets nothing changes nothing.
func TestClaimOfNothing(t *testing.T) {
	x := newPair(t)
	x.write(0x2000, 4, 0xf0)
	x.write(4, 4, 7)
	x.write(0x10, 4, 7)
	x.tick(0xe2) // 1 isn't enabled, 4 isn't pending, 5 to 7 have priority 0
	for _, at := range claimOf {
		if got := x.read(at, 4); got != 0 {
			t.Errorf("P12.2: Read(%#x, 4) = %d", at, got)
		}
		x.all()
	}
}

// While a source is claimed, its level makes it not pending; it is Best of no context, and no line tells of it.
func TestClaimedAndUp(t *testing.T) {
	for ctx := range 2 {
		for s := 1; s <= 7; s++ {
			x := claimed(t, ctx, s)
			for range 3 {
				x.tick(1 << s)
				x.all()
				if got := x.c.State(); got.Pending != 0 || got.Claimed != 1<<s || x.c.Lines() != 0 || x.c.Best(0) != 0 || x.c.Best(1) != 0 {
					t.Fatalf("P12.1: source %d is claimed and up, State() = %+v, Lines() = %#x", s, got, x.c.Lines())
				}
				x.read(0x200004, 4)
				x.read(0x201004, 4)
			}
		}
	}
}

// What is written by the one context or the other, with the source enabled there or not.
func TestCompleteByHand(t *testing.T) {
	every := both{0xfe, 0xfe}
	for _, row := range []struct {
		by, of int
		enable both
		v      uint64
		left   uint32
	}{
		{0, 0, both{0x20, 0}, 5, 0},
		{1, 1, both{0, 0x20}, 5, 0},
		{0, 1, both{0x20, 0x20}, 5, 0}, // enabled there, it may be the other one
		{1, 0, both{0x20, 0x20}, 5, 0},
		{0, 1, both{0x20, 0}, 5, 0}, // and no longer be enabled for that one
		{1, 0, both{0, 0x20}, 5, 0},
		{0, 1, both{0, 0x20}, 5, 0x20}, // not enabled there
		{1, 0, both{0x20, 0}, 5, 0x20},
		{0, 0, both{0, 0x20}, 5, 0x20}, // no longer enabled
		{0, 0, both{0xde, 0xfe}, 5, 0x20},
		{0, 0, every, 4, 0x20}, // another source
		{0, 0, every, 0, 0x20},
		{0, 0, every, 8, 0x20},
		{0, 0, every, 0x20, 0x20}, // its bit is not its number
		{0, 0, every, 5 + 8, 0x20},
		{0, 0, every, 5 + 32, 0x20},
		{0, 0, every, 5 + 64, 0x20},
		{0, 0, every, 5 + 256, 0x20},
		{0, 0, every, 5 + 1<<16, 0x20},
		{0, 0, every, 5 + 1<<31, 0x20},
		{0, 0, every, 5 + 1<<32, 0}, // the lowest 32 bits are written
		{1, 1, every, 5 + 1<<63, 0},
		{1, 1, every, 0xffffffff00000005, 0},
		{1, 1, every, 0xfffffffffffffffb, 0x20}, // -5
		{1, 1, every, 1<<64 - 1, 0x20},
		{1, 1, every, 0x500000000, 0x20},
	} {
		x := claimed(t, row.of, 5)
		x.write(0x2000, 4, row.enable[0])
		x.write(0x2080, 4, row.enable[1])
		x.write(claimOf[row.by], 4, row.v)
		x.all()
		if got := x.c.State(); got.Claimed != row.left || got.Pending != 0 {
			t.Errorf("P12.2: claimed by context %d, with enabled %x, after context %d writes %#x, State() = %+v", row.of, row.enable, row.by, row.v, got)
		}
		want := uint32(0x20)
		if row.left != 0 {
			want = 0
		}
		x.c.Tick(0x20)
		if got := x.c.State().Pending; got != want {
			t.Errorf("P12.1: after the next Tick %#x is pending, want %#x", got, want)
		}
	}
}

// Each number, with bits above its lowest ones, too, for each set of sources that is enabled and each that is claimed.
func TestCompleteOfAllNumbers(t *testing.T) {
	for ctx := range 2 {
		x := newPair(t)
		for s := range uint64(7) {
			x.write(4*s+4, 4, s+1)
		}
		x.write(enableOf[ctx], 4, 0xfe)
		x.tick(0xfe)
		for n := 7; n > 0; n-- { // fewer of them are left pending each time
			x.read(claimOf[ctx], 4)
			for v := range uint64(300) {
				completeBoth(x, v)
			}
			for bit := 3; bit < 64; bit++ {
				for s := range uint64(8) {
					completeBoth(x, s|1<<bit)
					completeBoth(x, s-1<<bit)
				}
			}
		}
	}
}

// completeBoth writes v to the complete registers of copies of the device, with several sets of sources enabled.
func completeBoth(x pair, v uint64) {
	x.t.Helper()
	for ctx := range 2 {
		for _, enable := range []uint64{0, 0xfe, 0xaa, 0x54, 0x80, 0x2} {
			y := x.fork()
			y.write(enableOf[0], 4, enable)
			y.write(enableOf[1], 4, 0xfe-enable)
			y.write(claimOf[ctx], 4, v)
			if got, want := y.c.State(), y.p.state(); !same(got, want) {
				x.t.Fatalf("P12.2: with enabled %#x, after context %d writes %#x, State() = %+v, want %+v", enable, ctx, v, got, want)
			}
		}
	}
}

// A source that isn't claimed is not completed: neither does it come to be pending, nor does it cease to be so.
func TestCompleteOfWhatIsNotClaimed(t *testing.T) {
	for s := 1; s <= 7; s++ {
		for _, levels := range []uint32{0, 1 << s, 0xfe} {
			x := newPair(t)
			for i := range uint64(7) {
				x.write(4*i+4, 4, 1)
			}
			x.write(0x2000, 4, 0xfe)
			x.tick(levels)
			for range 2 {
				x.write(0x200004, 4, uint64(s))
				x.write(0x201004, 4, uint64(s))
				x.all()
				if got := x.c.State(); got.Pending != levels || got.Claimed != 0 {
					t.Fatalf("P12.2: source %d, which isn't claimed, is completed: State() = %+v", s, got)
				}
			}
		}
	}
}

// A complete register keeps no number: what is read there is a claim.
func TestCompleteKeepsNoNumber(t *testing.T) {
	for _, v := range values {
		x := newPair(t)
		x.write(0x200004, 4, v)
		x.write(0x201004, 4, v)
		if a, b := x.read(0x200004, 4), x.read(0x201004, 4); a != 0 || b != 0 {
			t.Errorf("P12.2: after writes of %#x the claims are %d and %d", v, a, b)
		}
		x.all()
	}
}

// Of several claims, each is ended by itself, in any order.
func TestSeveralClaims(t *testing.T) {
	for _, order := range [][]uint64{{1, 2, 3, 4, 5, 6, 7}, {7, 6, 5, 4, 3, 2, 1}, {4, 1, 7, 2, 6, 3, 5}} {
		c := made(t, [7]uint64{3, 1, 7, 2, 6, 5, 4}, both{0xfe, 0}, both{}, 0xfe)
		for _, want := range []uint64{3, 5, 6, 7, 1, 4, 2, 0} {
			if v, e := c.Read(0x200004, 4); v != want || e != api.OK {
				t.Fatalf("P12.2: the claim is %d, error %d; want %d", v, e, want)
			}
		}
		left := uint32(0xfe)
		for _, s := range order {
			e := c.Write(0x200004, 4, s)
			left -= 1 << s
			if got := c.State(); e != api.OK || got.Claimed != left || got.Pending != 0 {
				t.Errorf("P12.2: after %d is completed, error %d, State() = %+v, want %#x claimed", s, e, got, left)
			}
		}
	}
}
