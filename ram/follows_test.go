package ram

import "testing"

// A byte that was written is there, each time that it is read, until another one is written there, whatever is written elsewhere or refused.
func TestAWrittenByteIsReadUntilAnotherOneIsWritten(t *testing.T) {
	for _, addr := range []uint64{0x80000000, 0x80000001, 0x80000fff, 0x80001000, 0x80002345, 0x80003ffe, 0x80003fff} {
		r := newPair(t, 4).r
		r.Write(addr, []byte{0xa5})
		for other := uint64(0x7ffffff8); other < 0x80004008; other++ {
			if other == addr {
				continue
			}
			r.Write(other, []byte{byte(other)})
			r.Put(other, 1, other)
			if b, _ := r.Read(addr, 1); len(b) != 1 || b[0] != 0xa5 {
				t.Fatalf("What follows: the byte at %#x is % x behind a Write at %#x", addr, b, other)
			}
		}
		r.Some(addr-1, []byte{1, 2, 3}, []bool{true, false, true})
		r.Write(addr, make([]byte, 0x4001))
		r.Put(addr, 3, 0)
		for range 3 {
			expectRead(t, r, addr, 0xa5)
		}
		r.Write(addr, []byte{0x5a})
		expectRead(t, r, addr, 0x5a)
		r.Write(addr, []byte{0})
		expectRead(t, r, addr, 0)
	}
}

// Whatever was written, by whichever call, over what was there, each byte is the last one that was written.
func TestCallsInTurn(t *testing.T) {
	for seed, pages := range few {
		x := newPair(t, pages)
		d := dice(seed)
		for range 20000 {
			turn(x, &d)
		}
		x.whole()
	}
}

// turn makes one call; where, how many bytes and which ones, the dice say. Most are near the ends of pages; some are outside.
func turn(x pair, d *dice) {
	addr := 0x80000000 + 0x1000*uint64(d.below(len(x.p)/0x1000+1)) + uint64(d.below(24)) - 12
	if d.below(4) == 0 {
		addr = 0x80000000 + d.next()%uint64(len(x.p))
	}
	n := d.below(24)
	if d.below(50) == 0 {
		n = d.below(9000)
	}
	switch d.below(6) {
	case 0:
		x.write(addr, pattern(n, d.below(251)))
	case 1:
		strobe := make([]bool, d.below(30))
		for i := range strobe {
			strobe[i] = d.below(2) == 0
		}
		x.some(addr, pattern(n, d.below(251)), strobe)
	case 2:
		x.put(addr, 1<<d.below(5), d.next())
	case 3:
		x.word(addr, 1<<d.below(5))
	case 4:
		size := uint64(1) << d.below(4)
		x.put(addr/size*size, int(size), d.next())
	default:
		x.read(addr, n)
	}
}
