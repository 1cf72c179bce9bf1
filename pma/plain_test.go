package pma

import "math"

// The numbers of the regions and of the kinds, as the tests call them: written apart from package api.
const (
	none, rom, clint, plic, uart, ram = 0, 1, 2, 3, 4, 5
	fetch, load, store                = 0, 1, 2
)

// part is a region by its first and its last address.
type part struct {
	region      int
	first, last uint64
}

// fixed are the regions whose size hangs on nothing.
var fixed = [...]part{
	{rom, 0x1000, 0x1fff},
	{clint, 0x2000000, 0x200ffff},
	{plic, 0xc000000, 0xc3fffff},
	{uart, 0x10000000, 0x10000fff},
}

func plainParts(pages int) []part {
	switch {
	case pages < 4:
		pages = 4
	case pages > 256:
		pages = 256
	}
	return append(fixed[:len(fixed):len(fixed)], part{ram, 0x80000000, 0x7fffffff + 0x1000*uint64(pages)})
}

// plainPart returns the region of addr; one whose number is none, if there is none.
func plainPart(pages int, addr uint64) part {
	for _, p := range plainParts(pages) {
		if p.first <= addr && addr <= p.last {
			return p
		}
	}
	return part{}
}

func plainRegion(pages int, addr uint64) int { return plainPart(pages, addr).region }

// plainTogether reports whether the size bytes from addr on, looked at one by one, are all in the region of the first one, and that is one.
func plainTogether(pages int, addr uint64, size int) bool {
	first := plainRegion(pages, addr)
	for i := range size {
		if uint64(i) > math.MaxUint64-addr || plainRegion(pages, addr+uint64(i)) != first {
			return false
		}
	}
	return first != none
}

func plainMay(pages int, addr uint64, size, kind int, atomic bool) bool {
	if size != 1 && size != 2 && size != 4 && size != 8 || !plainTogether(pages, addr, size) {
		return false
	}
	region := plainRegion(pages, addr)
	if atomic && region != ram {
		return false
	}
	return kind == fetch && (region == rom || region == ram) || kind == load || kind == store && region != rom
}

func plainOffset(pages int, addr uint64) uint64 {
	if plainRegion(pages, addr) == none {
		return 0
	}
	return addr - plainPart(pages, addr).first
}

func plainCached(pages int, addr uint64) bool { return plainRegion(pages, addr) == ram }

func plainDevice(pages int, addr uint64) bool {
	region := plainRegion(pages, addr)
	return region == clint || region == plic || region == uart
}
