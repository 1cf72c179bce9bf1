package clint

import (
	"testing"

	"tappet/api"
)

// made is a device whose registers hold these values.
func made(t *testing.T, soft, cmp, now uint64) *Clint {
	t.Helper()
	c := New()
	if c.Write(0, 4, soft) != api.OK || c.Write(0x4000, 8, cmp) != api.OK || c.Write(0xbff8, 8, now) != api.OK {
		t.Fatal("P11.1: a register is refused")
	}
	return c
}

func TestLinesByHand(t *testing.T) {
	for _, row := range []struct{ soft, cmp, now, want uint64 }{
		{0, 100, 99, 0},
		{0, 100, 100, 0x80},
		{0, 100, 101, 0x80},
		{1, 100, 99, 0x8},
		{1, 100, 100, 0x88},
		{1, 100, 101, 0x88},
		{2, 100, 99, 0},
		{2, 100, 101, 0x80},
		{0, 0, 0, 0x80},
		{0, 0, 1, 0x80},
		{0, 0, 1<<64 - 1, 0x80},
		{0, 1, 0, 0},
		{0, 1<<64 - 1, 0, 0},
		{0, 1<<64 - 1, 1<<64 - 2, 0},
		{0, 1<<64 - 1, 1<<64 - 1, 0x80},
		{0, 1<<64 - 2, 1<<64 - 1, 0x80},
		{0, 1 << 63, 1<<63 - 1, 0}, // compared without signs
		{0, 1<<63 - 1, 1 << 63, 0x80},
		{0, 1 << 63, 1 << 63, 0x80},
		{0, 1 << 32, 1<<32 - 1, 0},
		{0, 1<<32 - 1, 1 << 32, 0x80},
		{0, 1, 1 << 63, 0x80},
	} {
		if got := made(t, row.soft, row.cmp, row.now).Lines(); got != row.want {
			t.Errorf("P11.1: with msip %d, mtimecmp %#x and mtime %#x, Lines() = %#x, want %#x", row.soft, row.cmp, row.now, got, row.want)
		}
	}
}

func TestLinesOfAllValues(t *testing.T) {
	for _, cmp := range values {
		for _, now := range values {
			for d := range uint64(3) {
				for soft := range uint64(2) {
					pairWith(t, soft, cmp, now-1+d).all()
					pairWith(t, soft, cmp, cmp-1+d).all()
				}
			}
		}
	}
}

func TestTickByHand(t *testing.T) {
	for _, row := range []struct{ now, want uint64 }{
		{0, 1}, {1, 2}, {0xff, 0x100}, {0xffff, 0x10000}, {1<<31 - 1, 1 << 31}, {1<<32 - 1, 1 << 32},
		{1<<63 - 1, 1 << 63}, {1<<64 - 2, 1<<64 - 1}, {1<<64 - 1, 0},
	} {
		for soft := range uint64(2) {
			c := made(t, soft, 77, row.now)
			c.Tick()
			if is, now, cmp := c.State(); is != (soft == 1) || now != row.want || cmp != 77 || c.Time() != row.want {
				t.Errorf("P11.1: at %#x, after Tick, State() = %t, %#x, %#x, Time() = %#x", row.now, is, now, cmp, c.Time())
			}
		}
	}
}

func TestTicksFromEachValue(t *testing.T) {
	for _, now := range values {
		x := pairWith(t, now, now+2, now)
		for range 5 {
			x.tick()
			x.all()
		}
	}
}

// Each call of Tick counts, over many of them.
func TestManyTicks(t *testing.T) {
	c := New()
	for i := range uint64(100000) {
		if got := c.Time(); got != i {
			t.Fatalf("P11.1: after %d ticks, Time() = %d", i, got)
		}
		c.Tick()
	}
	x := pairWith(t, 0, 1<<64-1, 1<<64-500)
	for range 1000 {
		x.tick()
		x.all()
	}
}

func TestExample(t *testing.T) {
	c := New()
	if e := c.Write(0x4000, 8, 2); e != api.OK {
		t.Errorf("P11.1: Write(0x4000, 8, 2): error %d", e)
	}
	c.Tick()
	c.Tick()
	if got := c.Lines(); got != 1<<7 {
		t.Errorf("P11.1: after two ticks, Lines() = %#x", got)
	}
	if v, e := c.Read(0x4000, 4); v != 0 || e != api.ErrBus {
		t.Errorf("P11.1: Read(0x4000, 4) = %#x, error %d", v, e)
	}
}
