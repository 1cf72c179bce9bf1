package pma

import "testing"

// No two of the regions, as the calls tell them, have an address in common.
func TestAtMostOneRegion(t *testing.T) {
	for _, pages := range allCounts() {
		l := regions(pages)
		for i, r := range l {
			for _, o := range l[i+1:] {
				if r.number == o.number || r.base <= o.base+o.size-1 && o.base <= r.base+r.size-1 {
					t.Errorf("What follows: with %d pages, %+v and %+v have addresses in common", pages, r, o)
				}
			}
		}
		for _, addr := range places(pages) {
			oneAtMost(t, pages, addr)
		}
	}
}

// oneAtMost counts the regions in which an address lies, and asks the calls of it, which must agree.
func oneAtMost(t *testing.T, pages int, addr uint64) {
	t.Helper()
	in := 0
	for _, r := range regions(pages) {
		if r.base <= addr && addr-r.base < r.size {
			in++
		}
	}
	region := Region(pages, addr)
	if in > 1 || (in == 1) != (region != none) {
		t.Errorf("What follows: with %d pages, %#x lies in %d regions; Region answers %d", pages, addr, in, region)
	}
	if Cached(pages, addr) && Device(pages, addr) {
		t.Errorf("What follows: with %d pages, %#x is in RAM and of a device", pages, addr)
	}
	if May(pages, addr, 1, load, false) != (in == 1) {
		t.Errorf("What follows: with %d pages, %#x lies in %d regions; a byte may not be read, or may be", pages, addr, in)
	}
}

// An address less its offset is the base of its region.
func TestOffsetsLeadBackToTheBase(t *testing.T) {
	bases := map[int]uint64{rom: 0x1000, clint: 0x2000000, plic: 0xc000000, uart: 0x10000000, ram: 0x80000000}
	for _, pages := range few() {
		for _, addr := range places(pages) {
			region := Region(pages, addr)
			if region == none {
				continue
			}
			if base := addr - Offset(pages, addr); base != bases[region] || Region(pages, base) != region {
				t.Errorf("What follows: with %d pages, %#x of the region %d is told to be %#x behind its base", pages, addr, region, addr-base)
			}
		}
	}
}
