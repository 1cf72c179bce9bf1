package pma

import "tappet/api"

// region is a part of the map: its number (RegRom to RegRam), its first address, how many bytes it has.
type region struct {
	number     int
	base, size uint64
}

// regions returns all parts of the map.
func regions(pages int) []region {
	pages = min(max(pages, api.MinPages), api.MaxPages)
	return []region{
		{api.RegRom, api.RomBase, api.RomSize},
		{api.RegClint, api.ClintBase, api.ClintSize},
		{api.RegPlic, api.PlicBase, api.PlicSize},
		{api.RegUart, api.UartBase, api.UartSize},
		{api.RegRam, api.RamBase, uint64(pages) * api.PageSize},
	}
}

// find returns the region of addr and the offset in it; a region without bytes, RegNone, and 0, if there is none.
func find(pages int, addr uint64) (region, uint64) {
	for _, r := range regions(pages) {
		// Of an address ahead of the region, the difference wraps around and is greater than any size.
		if at := addr - r.base; at < r.size {
			return r, at
		}
	}
	return region{number: api.RegNone}, 0
}

// holds reports whether an access of that size, which begins at that offset in r, ends in r, too.
func (r region) holds(at uint64, size int) bool {
	switch size {
	case 1, 2, 4, 8:
		return uint64(size) <= r.size-at
	}
	return false
}

// permits reports whether accesses of that kind are permitted in r.
func (r region) permits(kind int) bool {
	switch kind {
	case api.Fetch:
		return r.number == api.RegRom || r.number == api.RegRam
	case api.Load:
		return true
	case api.Store:
		return r.number != api.RegRom
	}
	return false
}
