package pma

import (
	"math"
	"testing"
)

func expectMay(t *testing.T, pages int, addr uint64, size, kind int, atomic, want bool) {
	t.Helper()
	if got := May(pages, addr, size, kind, atomic); got != want {
		t.Errorf("P9.1: May(%d, %#x, %d, %d, %t) = %t", pages, addr, size, kind, atomic, got)
	}
}

// rights says of a region which kinds of accesses it permits, those that are not atomic and those that are.
var rights = [...]struct {
	region int
	plain  [3]bool
	atomic [3]bool
}{
	{rom, [3]bool{fetch: true, load: true, store: false}, [3]bool{}},
	{clint, [3]bool{fetch: false, load: true, store: true}, [3]bool{}},
	{plic, [3]bool{fetch: false, load: true, store: true}, [3]bool{}},
	{uart, [3]bool{fetch: false, load: true, store: true}, [3]bool{}},
	{ram, [3]bool{fetch: true, load: true, store: true}, [3]bool{fetch: true, load: true, store: true}},
}

// whole asks for an access that lies in the region.
func whole(t *testing.T, pages, region int, addr uint64, size int) {
	t.Helper()
	for _, r := range rights {
		if r.region != region {
			continue
		}
		for _, kind := range kinds {
			expectMay(t, pages, addr, size, kind, false, r.plain[kind])
			expectMay(t, pages, addr, size, kind, true, r.atomic[kind])
		}
	}
}

// never asks for an access that no kind permits.
func never(t *testing.T, pages int, addr uint64, size int) {
	t.Helper()
	for _, kind := range kinds {
		for _, atomic := range atomics {
			expectMay(t, pages, addr, size, kind, atomic, false)
		}
	}
}

// All bytes of the access in the region, all but the last one, .., the first one alone; and likewise at the region's first byte.
func TestMayAtTheEndsOfRegions(t *testing.T) {
	for _, pages := range allCounts() {
		for _, p := range plainParts(pages) {
			for _, size := range sizes {
				n := uint64(size)
				whole(t, pages, p.region, p.first, size)
				whole(t, pages, p.region, p.first+1, size)
				whole(t, pages, p.region, p.last-n, size)
				whole(t, pages, p.region, p.last-n+1, size)
				for inside := range n {
					never(t, pages, p.last+1-inside, size)
					never(t, pages, p.first-n+inside, size)
				}
				never(t, pages, p.first-n-1, size)
				never(t, pages, p.last+2, size)
			}
		}
	}
}

func TestMayByHand(t *testing.T) {
	for _, r := range []struct {
		pages      int
		addr       uint64
		size, kind int
		atomic     bool
		want       bool
	}{
		{4, 0x1000, 4, fetch, false, true},
		{4, 0x1ffc, 4, fetch, false, true},
		{4, 0x1ffd, 4, fetch, false, false},
		{4, 0x1ffe, 2, fetch, false, true},
		{4, 0x1fff, 2, fetch, false, false},
		{4, 0x1fff, 1, load, false, true},
		{4, 0x1003, 8, load, false, true}, // no multiple of its size
		{4, 0xffd, 4, load, false, false},
		{4, 0xfff, 2, load, false, false},
		{4, 0x1000, 1, store, false, false},
		{4, 0x1000, 4, load, true, false},
		{4, 0x1000, 4, fetch, true, false},
		{4, 0x2000000, 4, fetch, false, false},
		{4, 0x200fff8, 8, load, false, true},
		{4, 0x200fff9, 8, store, false, false},
		{4, 0x2000000, 8, load, true, false},
		{4, 0xc3ffffc, 4, store, false, true},
		{4, 0xc3ffffd, 4, load, false, false},
		{4, 0x10000ff8, 8, store, false, true},
		{4, 0x10000ff9, 8, store, false, false},
		{4, 0x10000000, 1, store, true, false},
		{4, 0x80000000, 8, store, true, true},
		{4, 0x7fffffff, 2, store, false, false},
		{4, 0x80003ff8, 8, store, true, true},
		{4, 0x80003ff9, 8, load, false, false},
		{5, 0x80003ff9, 8, load, false, true},
		{3, 0x80003fff, 2, load, false, false},
		{0, 0x80003ffc, 4, fetch, false, true},
		{256, 0x800ffffe, 2, fetch, true, true},
		{257, 0x800ffffe, 4, fetch, false, false},
		{math.MinInt, 0x80004000, 1, load, false, false},
		{math.MaxInt, 0x800fffff, 1, load, false, true},
		{math.MaxInt, 0x80100000, 1, load, false, false},
		{4, 0, 8, load, false, false},
		{4, 0x40000000, 4, load, false, false},
	} {
		expectMay(t, r.pages, r.addr, r.size, r.kind, r.atomic, r.want)
	}
}

func TestMayEverywhere(t *testing.T) {
	for _, pages := range few() {
		for _, addr := range places(pages) {
			for _, size := range sizes {
				for _, kind := range kinds {
					for _, atomic := range atomics {
						expectMay(t, pages, addr, size, kind, atomic, plainMay(pages, addr, size, kind, atomic))
					}
				}
			}
		}
	}
}

// No access is of another size, however many of its bytes lie in a region.
func TestMayRefusesOtherSizes(t *testing.T) {
	for _, pages := range few() {
		for _, addr := range append(edges(pages), around(0)...) {
			for _, size := range noSizes {
				never(t, pages, addr, size)
			}
		}
	}
	for size := range 1 << 13 {
		if size != 1 && size != 2 && size != 4 && size != 8 {
			never(t, 256, 0x80000000, size)
			never(t, 256, 0x80000000, -size)
		}
	}
}

func TestMayRefusesOtherKinds(t *testing.T) {
	for _, pages := range few() {
		for _, addr := range append(edges(pages), around(0)...) {
			for _, kind := range noKinds {
				for _, size := range sizes {
					expectMay(t, pages, addr, size, kind, false, false)
					expectMay(t, pages, addr, size, kind, true, false)
				}
			}
		}
	}
	for kind := 3; kind < 1<<13; kind++ {
		expectMay(t, 256, 0x80000000, 4, kind, false, false)
		expectMay(t, 256, 0x80000000, 4, -kind, false, false)
	}
}

// Bytes that go past 2^64 come to no region, nor do the ones that they would wrap around to.
func TestMayPastTheLastAddress(t *testing.T) {
	for _, pages := range allCounts() {
		for below := range uint64(17) {
			for _, size := range sizes {
				never(t, pages, math.MaxUint64-below, size)
			}
			for _, size := range noSizes {
				never(t, pages, math.MaxUint64-below, size)
			}
		}
	}
}
