package plic

import (
	"testing"

	"tappet/api"
)

// busy is a pair with something in each register: source 1 is claimed by context 1, and 3 by context 0; 2, 4 and 6 are pending.
func busy(t *testing.T) pair {
	t.Helper()
	x := newPair(t)
	for s, prio := range []uint64{5, 2, 7, 4, 0, 3, 6} {
		x.write(uint64(4*s+4), 4, prio)
	}
	x.write(0x2000, 4, 0x5c)
	x.write(0x2080, 4, 0xb2)
	x.write(0x200000, 4, 3)
	x.write(0x201000, 4, 2)
	x.tick(1<<1 | 1<<2 | 1<<3 | 1<<4 | 1<<6)
	if a, b := x.read(0x200004, 4), x.read(0x201004, 4); a != 3 || b != 1 {
		t.Fatalf("P12.2: context 0 claims %d, want 3; context 1 claims %d, want 1", a, b)
	}
	return x
}

func TestInitialState(t *testing.T) {
	c := New()
	if got := c.State(); !same(got, api.Devices{}) {
		t.Errorf("P12.1: of a new device, State() = %+v", got)
	}
	for _, r := range registers {
		if v, e := c.Read(r.off, 4); v != 0 || e != 0 {
			t.Errorf("P12.1: of a new device, Read(%#x, 4) = %#x, error %d", r.off, v, e)
		}
	}
	if c.Best(0) != 0 || c.Best(1) != 0 || c.Lines() != 0 {
		t.Errorf("P12.1: of a new device, Best is %d and %d, Lines() = %#x", c.Best(0), c.Best(1), c.Lines())
	}
	if got := c.State(); !same(got, api.Devices{}) {
		t.Errorf("P12.1: of a new device, after reads, State() = %+v", got)
	}
	newPair(t).all()
}

// A device takes no part in what is done with another one.
func TestDevicesAreApart(t *testing.T) {
	y := newPair(t)
	x := busy(t)
	y.all()
	y.tick(0xff)
	x.all()
	y.all()
	newPair(t).all()
}

func TestAccessesByHand(t *testing.T) {
	c := New()
	for _, row := range []struct {
		off     uint64
		size    int
		v, want uint64
		e       api.Errno
	}{
		{0x4, 4, 1, 1, 0},
		{0x8, 4, 7, 7, 0},
		{0xc, 4, 8, 0, 0}, // a priority has three bits
		{0x10, 4, 0xf, 7, 0},
		{0x14, 4, 0x1fffffffd, 5, 0},
		{0x18, 4, 0xfffffffffffffff8, 0, 0},
		{0x1c, 4, 0x100000000, 0, 0},
		{0x1c, 4, 0xffffffff, 7, 0},
		{0x2000, 4, 0xffffffffffffffff, 0xfe, 0}, // no source 0, none above 7
		{0x2080, 4, 0x1ffffff55, 0x54, 0},
		{0x2080, 4, 1, 0, 0},
		{0x2080, 4, 0x100, 0, 0},
		{0x2080, 4, 0xfe00000000, 0, 0},
		{0x2080, 4, 0x81, 0x80, 0},
		{0x200000, 4, 9, 1, 0},
		{0x200000, 4, 0xffffffffffffffff, 7, 0},
		{0x201000, 4, 6, 6, 0},
		{0x201000, 4, 0x300000004, 4, 0},
		{0, 4, 1, 0, 6}, // there is no source 0
		{0x20, 4, 1, 0, 6},
		{0x24, 4, 1, 0, 6},
		{0x3, 4, 1, 0, 6},
		{0x5, 4, 1, 0, 6},
		{0x6, 2, 1, 0, 6},
		{0x1e, 4, 1, 0, 6},
		{0x1d, 1, 1, 0, 6},
		{0xffc, 4, 1, 0, 6},
		{0xfff, 4, 1, 0, 6},
		{0x1001, 4, 1, 0, 6},
		{0x1004, 4, 1, 0, 6},
		{0x1080, 4, 1, 0, 6},
		{0x1f80, 4, 1, 0, 6}, // the context below 0
		{0x1ffc, 4, 1, 0, 6},
		{0x2004, 4, 1, 0, 6},
		{0x207c, 4, 1, 0, 6},
		{0x2084, 4, 1, 0, 6},
		{0x2100, 4, 1, 0, 6}, // the context above 1
		{0x1ff000, 4, 1, 0, 6},
		{0x1ff004, 4, 1, 0, 6},
		{0x1ffffc, 4, 1, 0, 6},
		{0x200001, 4, 1, 0, 6},
		{0x200008, 4, 1, 0, 6},
		{0x200ffc, 4, 1, 0, 6},
		{0x201008, 4, 1, 0, 6},
		{0x202000, 4, 1, 0, 6},
		{0x202004, 4, 1, 0, 6},
		{0x200002, 2, 1, 0, 6},
		{0x200006, 2, 1, 0, 6},
		{0x200000, 8, 1, 0, 6}, // two registers at once
		{0x4, 8, 1, 0, 6},
		{0x4, 2, 1, 0, 6},
		{0x4, 1, 1, 0, 6},
		{0x4, 0, 1, 0, 6},
		{0x4, -4, 1, 0, 6},
		{0x4, 3, 1, 0, 6},
		{0x4, 5, 1, 0, 6},
		{0x2000, 1, 1, 0, 6},
		{0x2000, 8, 1, 0, 6},
		{0x1000, 8, 1, 0, 6},
		{0x1000, 2, 1, 0, 6},
		{0x200004, 1, 1, 0, 6},
		{0x200004, 8, 1, 0, 6},
		{0x400000, 4, 1, 0, 6},
		{0xc000004, 4, 1, 0, 6}, // an address is no offset
		{0xc200004, 4, 1, 0, 6},
		{1<<64 - 4, 4, 1, 0, 6},
		{1<<64 - 4, 8, 1, 0, 6},
		{1<<64 - 1, 4, 1, 0, 6},
		{1<<64 - 0x80, 4, 1, 0, 6},
		{1<<63 + 4, 4, 1, 0, 6},
		{1<<32 + 4, 4, 1, 0, 6},
		{1<<32 + 0x200004, 4, 1, 0, 6},
	} {
		if e := c.Write(row.off, row.size, row.v); e != row.e {
			t.Errorf("P12.2: Write(%#x, %d, %#x): error %d, want %d", row.off, row.size, row.v, e, row.e)
		}
		if v, e := c.Read(row.off, row.size); v != row.want || e != row.e {
			t.Errorf("P12.2: Read(%#x, %d) = %#x, error %d; want %#x, error %d", row.off, row.size, v, e, row.want, row.e)
		}
	}
	want := api.Devices{Prio: [8]uint32{0, 1, 7, 0, 7, 5, 0, 7}, Enable: [2]uint32{0xfe, 0x80}, Thresh: [2]uint32{7, 4}}
	if got := c.State(); !same(got, want) {
		t.Errorf("P12.2: State() = %+v, want %+v", got, want)
	}
}

func TestPendingIsReadOnly(t *testing.T) {
	c := New()
	for _, before := range []uint32{0, 0xfe, 0xaa, 0x54} {
		c.Tick(before)
		was := c.State().Pending
		if v, e := c.Read(0x1000, 4); v != uint64(was) || e != api.OK || was&before != before {
			t.Errorf("P12.2: after Tick(%#x), Read(0x1000, 4) = %#x, error %d; State has %#x", before, v, e, was)
		}
		for _, v := range values {
			if e := c.Write(0x1000, 4, v); e != api.ErrBus || c.State().Pending != was {
				t.Errorf("P12.2: Write(0x1000, 4, %#x): error %d, then %#x is pending, and ahead of it %#x", v, e, c.State().Pending, was)
			}
		}
	}
	for _, v := range values {
		x := busy(t)
		x.write(0x1000, 4, v)
		x.all()
	}
}

// Each register takes each value, and leaves the others as they are.
func TestEachRegisterTakesEachValue(t *testing.T) {
	for _, r := range registers {
		for _, v := range values {
			x := busy(t)
			x.write(r.off, 4, v)
			x.all()
			x.write(r.off, 4, ^v)
			x.all()
		}
	}
}

func TestEachBit(t *testing.T) {
	for _, r := range registers {
		for bit := range 64 {
			x := busy(t)
			for _, v := range []uint64{0, 1 << bit, ^uint64(1 << bit), ^uint64(0)} {
				x.write(r.off, 4, v)
				x.all()
			}
		}
	}
}

// Each offset with each size, ones that are none too: but for the registers, all are refused, and alter nothing.
func TestAccessesEverywhere(t *testing.T) {
	for _, off := range offsets() {
		for _, size := range append(noSizes[:], 4) {
			x := busy(t)
			x.read(off, size)
			x.all()
			x.write(off, size, 0xf0e0d0c0b0a09033)
			x.all()
		}
	}
}

// A claim of another size, or beside the register, claims nothing, and such a write completes nothing.
func TestWhatIsRefusedClaimsNothing(t *testing.T) {
	x := busy(t)
	for _, at := range claimOf {
		for _, off := range append(around(at), at+0x1000, at-0x2000, at|1<<32, at|1<<63) {
			for _, size := range append(noSizes[:], 4) {
				if row(off, size) >= 0 {
					continue
				}
				x.read(off, size)
				for s := range uint64(9) {
					x.write(off, size, s)
				}
				if got := x.c.State(); got.Pending != 0x54 || got.Claimed != 0xa {
					t.Fatalf("P12.2: after accesses of %d at %#x, State() = %+v", size, off, got)
				}
			}
		}
	}
	x.all()
}

// Within the device's 4,194,304 bytes and some on, no other offset is a register's.
func TestEachOffset(t *testing.T) {
	x := busy(t)
	for off := uint64(0); off < 0x400100; off++ {
		x.read(off, 4)
		x.write(off, 4, off+9)
		if off%0x8000 == 0 {
			x.all()
		}
	}
	x.all()
}

func TestEachSize(t *testing.T) {
	for _, r := range registers {
		x := busy(t)
		for size := -300; size < 70000; size++ {
			if size != 4 {
				x.read(r.off, size)
				x.write(r.off, size, 0)
			}
		}
		x.all()
	}
}

// A nil device refuses all, whatever else speaks against it.
func TestNilDevice(t *testing.T) {
	var c *Plic
	c.Tick(0xfe)
	for _, off := range offsets() {
		for _, size := range append(noSizes[:], 4) {
			v, e := c.Read(off, size)
			if f := c.Write(off, size, 1); v != 0 || e != 2 || f != 2 {
				t.Errorf("P12.2: of nil, Read(%#x, %d) = %#x, error %d; Write error %d", off, size, v, e, f)
			}
		}
	}
	for _, ctx := range append(noContexts[:], 0, 1) {
		if got := c.Best(ctx); got != 0 {
			t.Errorf("P12.1: of nil, Best(%d) = %d", ctx, got)
		}
	}
	if got := c.Lines(); got != 0 {
		t.Errorf("P12.1: of nil, Lines() = %#x", got)
	}
	if got := c.State(); !same(got, api.Devices{}) {
		t.Errorf("P12.2: of nil, State() = %+v", got)
	}
}

// What State returned doesn't go on with the device.
func TestStateIsACopy(t *testing.T) {
	x := busy(t)
	got, want := x.c.State(), x.p.state()
	for s := range 8 {
		got.Prio[s]++
	}
	got.Enable[0], got.Thresh[1], got.Pending, got.Claimed = 0, 0, 0, 0
	x.all()
	got = x.c.State()
	x.write(4, 4, 0)
	x.write(0x2000, 4, 0)
	x.write(0x200000, 4, 0)
	x.tick(0xff)
	if !same(got, want) {
		t.Errorf("P12.2: what State returned became %+v, and was %+v", got, want)
	}
}

// A Plic that New didn't make is in the initial state, too.
func TestDeviceThatWasNotMade(t *testing.T) {
	x := pair{t, &Plic{}, &plain{}}
	x.all()
	x.tick(0xfe)
	x.all()
	for _, r := range registers {
		x.write(r.off, 4, 5)
		x.all()
	}
	x.write(0x2000, 4, 0xfe)
	for range 9 {
		x.read(0x200004, 4)
		x.all()
	}
}
