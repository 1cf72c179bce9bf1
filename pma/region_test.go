package pma

import (
	"math"
	"testing"
)

func expectRegion(t *testing.T, pages int, addr uint64, want int) {
	t.Helper()
	if got := Region(pages, addr); got != want {
		t.Errorf("P9.1: Region(%d, %#x) = %d, want %d", pages, addr, got, want)
	}
	if got := Cached(pages, addr); got != (want == ram) {
		t.Errorf("P9.1: Cached(%d, %#x) = %t, which is in region %d", pages, addr, got, want)
	}
	if got := Device(pages, addr); got != (want == clint || want == plic || want == uart) {
		t.Errorf("P9.1: Device(%d, %#x) = %t, which is in region %d", pages, addr, got, want)
	}
}

func expectOffset(t *testing.T, pages int, addr, want uint64) {
	t.Helper()
	if got := Offset(pages, addr); got != want {
		t.Errorf("P9.1: Offset(%d, %#x) = %#x, want %#x", pages, addr, got, want)
	}
}

// The rows hold with every number of pages.
func TestRegionsByHand(t *testing.T) {
	for _, pages := range allCounts() {
		for _, r := range []struct {
			addr   uint64
			region int
			offset uint64
		}{
			{0, none, 0}, {1, none, 0}, {0x800, none, 0},
			{0xffe, none, 0}, {0xfff, none, 0},
			{0x1000, rom, 0}, {0x1001, rom, 1}, {0x1800, rom, 0x800}, {0x1ffe, rom, 0xffe}, {0x1fff, rom, 0xfff},
			{0x2000, none, 0}, {0x2001, none, 0}, {0x1000000, none, 0},
			{0x1ffffff, none, 0},
			{0x2000000, clint, 0}, {0x2000001, clint, 1}, {0x2004000, clint, 0x4000}, {0x200bff8, clint, 0xbff8}, {0x200ffff, clint, 0xffff},
			{0x2010000, none, 0}, {0x3000000, none, 0},
			{0xbffffff, none, 0},
			{0xc000000, plic, 0}, {0xc000001, plic, 1}, {0xc002000, plic, 0x2000}, {0xc200004, plic, 0x200004}, {0xc3fffff, plic, 0x3fffff},
			{0xc400000, none, 0}, {0xe000000, none, 0},
			{0xfffffff, none, 0},
			{0x10000000, uart, 0}, {0x10000001, uart, 1}, {0x10000ffe, uart, 0xffe}, {0x10000fff, uart, 0xfff},
			{0x10001000, none, 0}, {0x20000000, none, 0}, {0x40000000, none, 0},
			{0x7fffffff, none, 0},
			{0x80000000, ram, 0}, {0x80000001, ram, 1}, {0x80003ffe, ram, 0x3ffe}, {0x80003fff, ram, 0x3fff},
			{0x80100000, none, 0}, {0x80100001, none, 0}, {0x90000000, none, 0},
			{0xffffffff, none, 0}, {0x100000000, none, 0}, {0x100001000, none, 0}, {0x180000000, none, 0},
			{1 << 63, none, 0}, {1<<63 | 0x80000000, none, 0}, {0xffffffff80000000, none, 0},
			{math.MaxUint64 - 1, none, 0}, {math.MaxUint64, none, 0},
		} {
			expectRegion(t, pages, r.addr, r.region)
			expectOffset(t, pages, r.addr, r.offset)
		}
	}
}

// The first and the last byte of each region, the bytes just ahead of it and just behind it.
func TestRegionsAtTheirEnds(t *testing.T) {
	for _, pages := range allCounts() {
		for _, p := range plainParts(pages) {
			for i := range uint64(16) {
				expectRegion(t, pages, p.first+i, p.region)
				expectRegion(t, pages, p.last-i, p.region)
				expectRegion(t, pages, p.first-1-i, none)
				expectRegion(t, pages, p.last+1+i, none)
				expectOffset(t, pages, p.first+i, i)
				expectOffset(t, pages, p.last-i, p.last-p.first-i)
				expectOffset(t, pages, p.first-1-i, 0)
				expectOffset(t, pages, p.last+1+i, 0)
			}
		}
	}
}

func TestRamEndsBehindItsPages(t *testing.T) {
	for _, r := range []struct {
		pages int
		last  uint64
	}{
		{3, 0x80003fff}, {4, 0x80003fff}, {5, 0x80004fff}, {6, 0x80005fff}, {7, 0x80006fff}, {16, 0x8000ffff}, {17, 0x80010fff},
		{128, 0x8007ffff}, {254, 0x800fdfff}, {255, 0x800fefff}, {256, 0x800fffff}, {257, 0x800fffff},
		{0, 0x80003fff}, {-1, 0x80003fff}, {-256, 0x80003fff}, {math.MinInt, 0x80003fff},
		{1000, 0x800fffff}, {1 << 20, 0x800fffff}, {1 << 32, 0x800fffff}, {1 << 52, 0x800fffff}, {math.MaxInt, 0x800fffff},
	} {
		expectRegion(t, r.pages, r.last, ram)
		expectRegion(t, r.pages, r.last+1, none)
		expectOffset(t, r.pages, r.last, r.last-0x80000000)
		expectOffset(t, r.pages, r.last+1, 0)
	}
}

func TestRegionsEverywhere(t *testing.T) {
	for _, pages := range allCounts() {
		for _, addr := range places(pages) {
			expectRegion(t, pages, addr, plainRegion(pages, addr))
			expectOffset(t, pages, addr, plainOffset(pages, addr))
		}
	}
}

// Fewer pages than MinPages are MinPages, more than MaxPages are MaxPages, in each of the calls.
func TestPagesCountWithinTheirLimits(t *testing.T) {
	for _, l := range []struct {
		given []int
		count int
	}{{tooFew[:], 4}, {tooMany[:], 256}} {
		for _, pages := range l.given {
			for _, addr := range append(edges(4), edges(256)...) {
				sameAs(t, pages, l.count, addr)
			}
		}
	}
}

func sameAs(t *testing.T, pages, count int, addr uint64) {
	t.Helper()
	if Region(pages, addr) != Region(count, addr) || Offset(pages, addr) != Offset(count, addr) || Cached(pages, addr) != Cached(count, addr) || Device(pages, addr) != Device(count, addr) {
		t.Fatalf("P9.1: at %#x, %d pages don't count as %d", addr, pages, count)
	}
	for _, size := range sizes {
		for _, kind := range kinds {
			for _, atomic := range atomics {
				if May(pages, addr, size, kind, atomic) != May(count, addr, size, kind, atomic) {
					t.Fatalf("P9.1: May at %#x of size %d, kind %d, atomic %t: %d pages don't count as %d", addr, size, kind, atomic, pages, count)
				}
			}
		}
	}
}

// What is asked with one number of pages doesn't alter what another one leads to.
func TestCallsKeepNothing(t *testing.T) {
	for _, n := range counts() {
		for _, pages := range [...]int{n, 260 - n, 4, n, 256} {
			for _, p := range plainParts(pages) {
				expectRegion(t, pages, p.last, p.region)
				expectRegion(t, pages, p.last+1, none)
				expectMay(t, pages, p.last, 1, load, false, true)
				expectMay(t, pages, p.last, 2, load, false, false)
			}
		}
	}
}
