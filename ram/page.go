package ram

import (
	"tappet/api"
	"tappet/pma"
)

type page [api.PageSize]byte

// has reports whether the n bytes from addr on are all in RAM; no bytes are so, wherever they would be.
func (r *Ram) has(addr uint64, n int) bool {
	if n == 0 {
		return true
	}
	// The end is held against r's own count: pma takes a memory without pages, as a zero Ram is, for one of MinPages.
	end := pma.Offset(r.count, addr) + uint64(n)
	return pma.Cached(r.count, addr) && end <= uint64(r.count)*api.PageSize
}

// place returns the number of the page in which addr lies, and where in that page; addr is in RAM.
func (r *Ram) place(addr uint64) (uint64, int) {
	at := pma.Offset(r.count, addr)
	return at / api.PageSize, int(at % api.PageSize)
}

// load fills b with the bytes from addr on, which are all in RAM; those of b are 0.
func (r *Ram) load(addr uint64, b []byte) {
	for len(b) > 0 {
		number, from := r.place(addr)
		n := min(len(b), api.PageSize-from)
		if p, ok := r.written[number]; ok {
			copy(b[:n], p[from:])
		}
		addr, b = addr+uint64(n), b[n:]
	}
}

// store writes b to the addresses from addr on, which are all in RAM.
func (r *Ram) store(addr uint64, b []byte) {
	for len(b) > 0 {
		number, from := r.place(addr)
		if r.written[number] == nil {
			r.written[number] = new(page)
		}
		n := copy(r.written[number][from:], b)
		addr, b = addr+uint64(n), b[n:]
	}
}
