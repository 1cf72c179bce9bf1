package clint

import "testing"

// The timer line rises when mtime reaches mtimecmp: not ahead of that, and it stays from there on.
func TestTheLineRisesWhenTheTimeIsReached(t *testing.T) {
	for _, start := range []uint64{0, 1, 1<<32 - 20, 1<<63 - 20, 1<<64 - 60} {
		for wait := range uint64(40) {
			for soft := range uint64(2) {
				c := made(t, soft, start+wait, start)
				for i := range uint64(50) {
					want := soft << 3
					if i >= wait {
						want += 0x80
					}
					if got := c.Lines(); got != want {
						t.Fatalf("What follows: from %#x with %d to wait, after %d ticks, Lines() = %#x, want %#x", start, wait, i, got, want)
					}
					c.Tick()
				}
			}
		}
	}
}

// It rises, too, when mtime is written.
func TestTheLineRisesWhenTheTimeIsWritten(t *testing.T) {
	for _, cmp := range []uint64{1, 2, 1000, 1 << 32, 1 << 63, 1<<64 - 1} {
		c := made(t, 0, cmp, 0)
		for _, row := range []struct{ now, want uint64 }{{0, 0}, {cmp - 1, 0}, {cmp, 0x80}, {cmp - 1, 0}, {1<<64 - 1, 0x80}, {0, 0}} {
			c.Write(0xbff8, 8, row.now)
			if got := c.Lines(); got != row.want {
				t.Errorf("What follows: with mtimecmp %#x, after mtime is written with %#x, Lines() = %#x, want %#x", cmp, row.now, got, row.want)
			}
		}
	}
}

// It falls when a value greater than mtime is written to mtimecmp, and when another one is written, it does not.
func TestTheLineFallsWhenAGreaterTimeIsWritten(t *testing.T) {
	for _, now := range []uint64{0, 1, 5, 1 << 32, 1<<63 - 1, 1 << 63, 1<<64 - 2} {
		for _, row := range []struct{ cmp, want uint64 }{{now, 0x80}, {0, 0x80}, {now / 2, 0x80}, {now + 1, 0}, {1<<64 - 1, 0}} {
			c := made(t, 0, now, now)
			if got := c.Lines(); got != 0x80 {
				t.Errorf("What follows: at %#x, which is mtimecmp, Lines() = %#x", now, got)
			}
			c.Write(0x4000, 8, row.cmp)
			if got := c.Lines(); got != row.want {
				t.Errorf("What follows: at %#x, after mtimecmp is written with %#x, Lines() = %#x, want %#x", now, row.cmp, got, row.want)
			}
		}
	}
	if c := made(t, 0, 1<<64-1, 1<<64-1); c.Lines() != 0x80 {
		t.Errorf("What follows: at the last time of all, Lines() = %#x", c.Lines())
	}
}

// A write that is refused leaves the line as it is.
func TestTheLineStaysWhenAWriteIsRefused(t *testing.T) {
	c := made(t, 0, 5, 5)
	for _, size := range append(noSizes[:], 1, 2, 4) {
		c.Write(0x4000, size, 9)
		c.Write(0xbff8, size, 4)
		c.Write(0x4001, size, 9)
	}
	if got := c.Lines(); got != 0x80 {
		t.Errorf("What follows: after writes that are refused, Lines() = %#x", got)
	}
}

// Whatever was done before, in long turns of mixed calls, the device answers by what is in its registers.
func TestCallsInTurn(t *testing.T) {
	for seed := range 20 {
		x := newPair(t)
		d := dice(seed)
		for range 5000 {
			turn(x, &d)
			x.all()
		}
	}
}

// turn makes one call; which, and with what, the dice say. Most accesses are to registers, and most times are close to each other.
func turn(x pair, d *dice) {
	r := registers[d.below(len(registers))]
	switch d.below(8) {
	case 0:
		r.off += uint64(d.below(17)) - 8
	case 1:
		r.size = sizes[d.below(len(sizes))]
	}
	switch d.below(5) {
	case 0:
		x.read(r.off, r.size)
	case 1:
		x.write(r.off, r.size, x.p.now-8+uint64(d.below(17)))
	case 2:
		if d.below(5) == 0 {
			x.write(r.off, r.size, values[d.below(len(values))])
		}
	default:
		x.tick()
	}
}
