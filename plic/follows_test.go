package plic

import (
	"testing"

	"tappet/api"
)

// A claimed source is not delivered a second time before it has been completed, whatever its level does; once it has been, it is, if its level is up.
func TestOneDeliveryAClaim(t *testing.T) {
	for by := range 2 {
		for s := 1; s <= 7; s++ {
			x := claimed(t, by, s)
			for i := range 20 {
				x.tick(uint32(i%3%2) << s)
				if a, b := x.read(0x200004, 4), x.read(0x201004, 4); a != 0 || b != 0 {
					t.Fatalf("What follows: source %d, claimed, is delivered a second time: %d, %d", s, a, b)
				}
				x.write(uint64(4*s), 4, uint64(i%7+1)) // nor does it help to write the other registers
				x.write(enableOf[i%2], 4, uint64(i)<<s)
				x.write(thresholdOf[i%2], 4, uint64(i))
			}
			x.write(enableOf[by], 4, 0xfe)
			x.write(claimOf[by], 4, uint64(s))
			if got := x.read(claimOf[by], 4); got != 0 {
				t.Fatalf("What follows: source %d is delivered before its level is seen", s)
			}
			x.tick(1 << s)
			if got := x.read(claimOf[by], 4); got != uint64(s) {
				t.Fatalf("What follows: source %d, completed and up, is not delivered: %d", s, got)
			}
			x.all()
		}
	}
}

// Whatever was done before, in long turns of mixed calls, the device answers by the chapter; and of the sources, those that were delivered and not completed are not delivered.
func TestCallsInTurn(t *testing.T) {
	for seed := range 40 {
		x := newPair(t)
		d := dice(seed)
		out := [8]bool{}
		for range 4000 {
			turn(x, &d, &out)
			x.all()
		}
	}
}

// turn makes one call; which, and with what, the dice say. out says which sources were delivered, and not completed since.
func turn(x pair, d *dice, out *[8]bool) {
	x.t.Helper()
	ctx := d.below(2)
	switch d.below(8) {
	case 0, 1:
		x.tick(uint32(d.next() & d.next() >> 8))
	case 2:
		s := x.read(claimOf[ctx], 4)
		if s != 0 && out[s] {
			x.t.Fatalf("What follows: source %d is delivered a second time", s)
		}
		out[s] = s != 0
	case 3, 4:
		s := d.below(9)
		enabled := x.c.State().Enable[ctx]>>s&1 == 1
		x.write(claimOf[ctx], 4, uint64(s)|d.next()<<32)
		if enabled {
			out[s] = false
		}
	case 5:
		off := registers[d.below(len(registers))].off
		x.write(off+1+uint64(d.below(3)), 4, d.next())
		x.write(off, noSizes[d.below(len(noSizes))], d.next())
		x.read(off, noSizes[d.below(len(noSizes))])
	case 6:
		x.write(enableOf[ctx], 4, d.next()|d.next())
		x.write(thresholdOf[ctx], 4, d.next()&d.next()&d.next())
	default:
		x.write(uint64(4*d.below(9)), 4, d.next())
	}
}

func TestExample(t *testing.T) {
	c := New()
	if e, f := c.Write(4, 4, 3), c.Write(0x2000, 4, 2); e != api.OK || f != api.OK {
		t.Errorf("P12.2: the writes: errors %d, %d", e, f)
	}
	c.Tick(2)
	if got := c.Lines(); got != 1<<11 {
		t.Errorf("P12.1: Lines() = %#x", got)
	}
	if v, e := c.Read(0x200004, 4); v != 1 || e != api.OK || c.Lines() != 0 {
		t.Errorf("P12.2: Read(0x200004, 4) = %d, error %d; Lines() = %#x", v, e, c.Lines())
	}
	c.Tick(2)
	if got := c.Lines(); got != 0 {
		t.Errorf("P12.1: Lines() = %#x, while the source is claimed", got)
	}
	e := c.Write(0x200004, 4, 1)
	c.Tick(2)
	if got := c.Lines(); e != api.OK || got != 1<<11 {
		t.Errorf("P12.2: Write(0x200004, 4, 1): error %d; Lines() = %#x", e, got)
	}
}
