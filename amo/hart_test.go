package amo

import (
	"testing"

	"tappet/api"
)

// granules are multiples of 8, the lowest and the highest among them.
var granules = [...]uint64{
	0, 8, 16, 0x78, 0x80, 0xff8, 0x1000, 0x80000000, 0x80000008, 1<<32 - 8, 1 << 32, 1<<63 - 8, 1 << 63, all - 15, all - 7,
}

func TestGranule(t *testing.T) {
	for _, g := range granules {
		for i := range uint64(8) {
			if got := Granule(g + i); got != g {
				t.Errorf("P6.2: Granule(%#x) = %#x, want %#x", g+i, got, g)
			}
		}
	}
	for _, r := range [][2]uint64{{7, 0}, {8, 8}, {9, 8}, {15, 8}, {0x80000007, 0x80000000}, {all, 0xfffffffffffffff8}, {all - 8, 0xfffffffffffffff0}} {
		if got := Granule(r[0]); got != r[1] {
			t.Errorf("P6.2: Granule(%#x) = %#x, want %#x", r[0], got, r[1])
		}
	}
	for _, addr := range words() {
		if got := Granule(addr); got%8 != 0 || got > addr || addr-got > 7 {
			t.Errorf("P6.2: Granule(%#x) = %#x", addr, got)
		}
	}
}

// full is a hart all of whose other fields have values of their own.
func full(res bool, at uint64) api.Hart {
	h := api.Hart{PC: 0x80000123, Priv: api.Super, Res: res, ResAt: at}
	for i := range h.X {
		h.X[i] = uint64(i)<<32 | 0xabc
	}
	h.C = api.Csrs{
		Status: 1, Edeleg: 2, Ideleg: 3, Ie: 4, Ip: 5, Tvec: 6, Counteren: 7, Scratch: 8, Epc: 9, Cause: 10, Tval: 11,
		Stvec: 12, Scounteren: 13, Sscratch: 14, Sepc: 15, Scause: 16, Stval: 17, Satp: 18,
		Inhibit: 19, Instret: 20, Cycle: 21, At: 22, Event: [4]uint64{23, 24, 25, 26}, Hpm: [4]uint64{27, 28, 29, 30},
	}
	return h
}

func TestHoldsAtItsGranuleAlone(t *testing.T) {
	for _, g := range granules {
		h := full(true, g)
		for i := range uint64(8) {
			if !Holds(h, g+i) {
				t.Errorf("P6.2: a reservation of %#x is not held at %#x", g, g+i)
			}
		}
		for i := uint64(1); i <= 16; i++ {
			if Holds(h, g-i) || Holds(h, g+7+i) {
				t.Errorf("P6.2: a reservation of %#x is held %d addresses beside it", g, i)
			}
		}
		for bit := 3; bit < 64; bit++ {
			if Holds(h, g^1<<bit) {
				t.Errorf("P6.2: a reservation of %#x is held at %#x", g, g^1<<bit)
			}
		}
	}
}

func TestHoldsNothingWithoutRes(t *testing.T) {
	for _, g := range granules {
		for i := range uint64(8) {
			if Holds(full(false, g), g+i) || Holds(api.Hart{ResAt: g}, g+i) {
				t.Errorf("P6.2: a hart whose Res is false holds a reservation at %#x", g+i)
			}
		}
	}
}

// ResAt is held against the granule as it is, not against the granule that it lies in.
func TestHoldsNothingOffTheGranule(t *testing.T) {
	for _, g := range granules {
		for i := uint64(1); i < 8; i++ {
			for j := range uint64(8) {
				if Holds(api.Hart{Res: true, ResAt: g + i}, g+j) {
					t.Errorf("P6.2: a hart whose ResAt is %#x holds a reservation at %#x", g+i, g+j)
				}
			}
		}
	}
}

func TestHoldAndClear(t *testing.T) {
	for _, h := range []api.Hart{{}, full(false, 0), full(true, 0x80000040), full(false, 0x80000040), full(true, 3), full(true, all)} {
		for _, g := range granules {
			for i := range uint64(8) {
				checkHold(t, h, g+i, g)
			}
		}
		want := h
		want.Res, want.ResAt = false, 0
		if got := Clear(h); got != want {
			t.Errorf("P6.2: Clear(%+v) = %+v", h, got)
		}
	}
}

func checkHold(t *testing.T, h api.Hart, addr, granule uint64) {
	t.Helper()
	want := h
	want.Res, want.ResAt = true, granule
	got := Hold(h, addr)
	if got != want {
		t.Fatalf("P6.2: Hold(%+v, %#x) = %+v", h, addr, got)
	}
	for i := range uint64(8) {
		if !Holds(got, granule+i) {
			t.Fatalf("P6.2: behind Hold at %#x, nothing is held at %#x", addr, granule+i)
		}
		if Holds(Clear(got), granule+i) {
			t.Fatalf("P6.2: behind Hold at %#x and Clear, a reservation is held at %#x", addr, granule+i)
		}
	}
	if Holds(got, granule-1) || Holds(got, granule+8) {
		t.Fatalf("P6.2: behind Hold at %#x, a reservation is held beside the granule", addr)
	}
}

// A hart holds one reservation: that of the last Hold.
func TestHoldLetsGoOfTheOneBefore(t *testing.T) {
	for _, first := range granules {
		for _, second := range granules {
			h := Hold(Hold(api.Hart{}, first), second)
			if !Holds(h, second) || first != second && Holds(h, first) {
				t.Errorf("P6.2: behind Hold at %#x and at %#x: %t, %#x", first, second, h.Res, h.ResAt)
			}
		}
	}
}
