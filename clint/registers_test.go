package clint

import (
	"testing"

	"tappet/api"
)

func TestInitialValues(t *testing.T) {
	c := New()
	for _, row := range []struct {
		off  uint64
		size int
		want uint64
	}{{0, 4, 0}, {0x4000, 8, 0xffffffffffffffff}, {0xbff8, 8, 0}} {
		if v, e := c.Read(row.off, row.size); v != row.want || e != 0 {
			t.Errorf("P11.1: of a new device, Read(%#x, %d) = %#x, error %d; want %#x", row.off, row.size, v, e, row.want)
		}
	}
	if soft, now, cmp := c.State(); soft || now != 0 || cmp != 0xffffffffffffffff {
		t.Errorf("P11.1: of a new device, State() = %t, %#x, %#x", soft, now, cmp)
	}
	if c.Time() != 0 || c.Lines() != 0 {
		t.Errorf("P11.1: of a new device, Time() = %#x, Lines() = %#x", c.Time(), c.Lines())
	}
	newPair(t).all()
}

// A device takes no part in what is done with another one.
func TestDevicesAreApart(t *testing.T) {
	x, y := newPair(t), newPair(t)
	x.write(0, 4, 1)
	x.write(0x4000, 8, 5)
	x.write(0xbff8, 8, 9)
	y.all()
	y.tick()
	x.all()
	y.all()
	newPair(t).all()
}

func TestAccessesByHand(t *testing.T) {
	c := New()
	for _, row := range []struct {
		off     uint64
		size    int
		v, want uint64
		e       api.Errno
	}{
		{0, 4, 1, 1, 0},
		{0, 4, 2, 0, 0}, // bit 0 alone is there
		{0, 4, 3, 1, 0},
		{0, 4, 0xfffffffe, 0, 0},
		{0, 4, 0xffffffff, 1, 0},
		{0, 4, 0x100000000, 0, 0},
		{0, 4, 0xffffffffffffffff, 1, 0},
		{0x4000, 8, 0x123456789abcdef0, 0x123456789abcdef0, 0},
		{0xbff8, 8, 0xfedcba9876543210, 0xfedcba9876543210, 0},
		{0x4000, 8, 0, 0, 0},
		{0xbff8, 8, 0, 0, 0},
		{0x4000, 8, 0xffffffffffffffff, 0xffffffffffffffff, 0},
		{0xbff8, 8, 0xffffffffffffffff, 0xffffffffffffffff, 0},
		{0, 1, 0, 0, 6},
		{0, 2, 0, 0, 6},
		{0, 8, 0, 0, 6},
		{0, 0, 0, 0, 6},
		{1, 1, 0, 0, 6},
		{2, 2, 0, 0, 6},
		{4, 4, 0, 0, 6},
		{8, 4, 0, 0, 6},
		{1<<64 - 4, 4, 0, 0, 6},
		{1<<64 - 4, 8, 0, 0, 6}, // its last four bytes would be msip's
		{0x4000, 1, 0, 0, 6},
		{0x4000, 2, 0, 0, 6},
		{0x4000, 4, 0, 0, 6},
		{0x4004, 4, 0, 0, 6}, // the half within
		{0x3ff8, 8, 0, 0, 6},
		{0x4008, 8, 0, 0, 6},
		{0x3fff, 8, 0, 0, 6},
		{0x4001, 8, 0, 0, 6},
		{0xbff8, 4, 0, 0, 6},
		{0xbffc, 4, 0, 0, 6},
		{0xbff0, 8, 0, 0, 6},
		{0xc000, 8, 0, 0, 6},
		{0xbff7, 8, 0, 0, 6},
		{0xbff9, 8, 0, 0, 6},
		{0x4000, 16, 0, 0, 6},
		{0xbff8, -8, 0, 0, 6},
		{0x10000, 4, 0, 0, 6},
		{0x2000000, 4, 0, 0, 6}, // an address is no offset
		{1 << 63, 4, 0, 0, 6},
		{0x1004000, 8, 0, 0, 6},
		{0x10000bff8, 8, 0, 0, 6},
	} {
		if e := c.Write(row.off, row.size, row.v); e != row.e {
			t.Errorf("P11.1: Write(%#x, %d, %#x): error %d, want %d", row.off, row.size, row.v, e, row.e)
		}
		if v, e := c.Read(row.off, row.size); v != row.want || e != row.e {
			t.Errorf("P11.1: Read(%#x, %d) = %#x, error %d; want %#x, error %d", row.off, row.size, v, e, row.want, row.e)
		}
	}
	if soft, now, cmp := c.State(); !soft || now != 1<<64-1 || cmp != 1<<64-1 {
		t.Errorf("P11.1: what was refused altered the registers: %t, %#x, %#x", soft, now, cmp)
	}
}

// Each register takes each value, and leaves the other two as they are.
func TestEachRegisterTakesEachValue(t *testing.T) {
	for _, before := range values {
		for _, v := range values {
			for _, r := range registers {
				x := pairWith(t, before, before^1, before+7)
				x.write(r.off, r.size, v)
				x.all()
			}
		}
	}
}

func TestMsipTakesBit0Alone(t *testing.T) {
	for bit := range 64 {
		x := pairWith(t, 0, 1<<63, 5)
		for _, v := range []uint64{1 << bit, 1<<bit | 1, ^uint64(1 << bit), ^uint64(1)} {
			x.write(0, 4, v)
			x.all()
		}
	}
}

// Each offset with each size, ones that are none too: but for the three registers, all are refused, and alter nothing.
func TestAccessesEverywhere(t *testing.T) {
	for _, off := range offsets() {
		for _, size := range append(noSizes[:], sizes[:]...) {
			x := pairWith(t, 3, 0x1122334455667788, 0x99aabbccddeeff00)
			x.read(off, size)
			x.all()
			x.write(off, size, 0xf0e0d0c0b0a09080)
			x.all()
		}
	}
}

// Within the device's 65,536 bytes and some on, no other offset is a register's.
func TestEachOffset(t *testing.T) {
	x := pairWith(t, 1, 0x1122334455667788, 0x99aabbccddeeff00)
	for off := uint64(0); off < 0x10100; off++ {
		for _, size := range sizes {
			x.read(off, size)
			x.write(off, size, off+9)
		}
		if off%64 == 0 {
			x.all()
		}
	}
	x.all()
}

func TestEachSize(t *testing.T) {
	for _, r := range registers {
		x := pairWith(t, 1, 0x1122334455667788, 0x99aabbccddeeff00)
		for size := -300; size < 70000; size++ {
			x.read(r.off, size)
			if size != r.size {
				x.write(r.off, size, 0)
			}
		}
		x.all()
	}
}

// A nil device refuses all, whatever else speaks against it.
func TestNilDevice(t *testing.T) {
	var c *Clint
	c.Tick()
	for _, off := range offsets() {
		for _, size := range append(noSizes[:], sizes[:]...) {
			v, e := c.Read(off, size)
			if f := c.Write(off, size, 1); v != 0 || e != 2 || f != 2 {
				t.Errorf("P11.1: of nil, Read(%#x, %d) = %#x, error %d; Write error %d", off, size, v, e, f)
			}
		}
	}
	if soft, now, cmp := c.State(); soft || now != 0 || cmp != 0 {
		t.Errorf("P11.1: of nil, State() = %t, %#x, %#x", soft, now, cmp)
	}
	if c.Time() != 0 || c.Lines() != 0 {
		t.Errorf("P11.1: of nil, Time() = %#x, Lines() = %#x", c.Time(), c.Lines())
	}
}

// A Clint that New didn't make has registers of zeros, and goes on from them like any other.
func TestDeviceThatWasNotMade(t *testing.T) {
	x := pair{t, &Clint{}, &plain{}}
	x.all()
	x.tick()
	x.all()
	for _, r := range registers {
		x.write(r.off, r.size, 5)
		x.all()
	}
	for _, off := range offsets() {
		x.read(off, 8)
	}
}
