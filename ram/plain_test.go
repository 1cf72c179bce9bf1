package ram

import (
	"bytes"
	"math"
	"testing"

	"tappet/api"
)

// plain is a memory as the chapter tells of it, all of its bytes side by side; the first one is at 0x80000000.
type plain []byte

func newPlain(pages int) plain { return make(plain, 0x1000*pages) }

// last is the address of the last byte.
func (p plain) last() uint64 { return 0x7fffffff + uint64(len(p)) }

// inside looks at the n bytes from addr on one by one.
func (p plain) inside(addr uint64, n int) bool {
	for i := range n {
		at := addr + uint64(i)
		if uint64(i) > math.MaxUint64-addr || at < 0x80000000 || at > p.last() {
			return false
		}
	}
	return true
}

func (p plain) read(addr uint64, n int) ([]byte, api.Errno) {
	if n < 0 {
		return nil, api.ErrArg
	}
	if !p.inside(addr, n) {
		return nil, api.ErrBus
	}
	if n == 0 {
		return nil, api.OK
	}
	return append([]byte(nil), p[addr-0x80000000:][:n]...), api.OK
}

func (p plain) some(addr uint64, b []byte, strobe []bool) api.Errno {
	if !p.inside(addr, len(b)) {
		return api.ErrBus
	}
	for i, v := range b {
		if i < len(strobe) && strobe[i] {
			p[addr+uint64(i)-0x80000000] = v
		}
	}
	return api.OK
}

func (p plain) write(addr uint64, b []byte) api.Errno { return p.some(addr, b, all(len(b))) }

func (p plain) wrong(addr uint64, size int) api.Errno {
	if size != 1 && size != 2 && size != 4 && size != 8 {
		return api.ErrArg
	}
	if addr%uint64(size) != 0 {
		return api.ErrAlign
	}
	return api.OK
}

func (p plain) word(addr uint64, size int) (uint64, api.Errno) {
	if e := p.wrong(addr, size); e != api.OK {
		return 0, e
	}
	b, e := p.read(addr, size)
	v := uint64(0)
	for i := range b {
		v = v*256 + uint64(b[len(b)-1-i])
	}
	return v, e
}

func (p plain) put(addr uint64, size int, v uint64) api.Errno {
	if e := p.wrong(addr, size); e != api.OK {
		return e
	}
	var b []byte
	for range size {
		b = append(b, byte(v%256))
		v /= 256
	}
	return p.write(addr, b)
}

// all is a strobe of n times true.
func all(n int) []bool {
	l := make([]bool, n)
	for i := range l {
		l[i] = true
	}
	return l
}

// pair is a memory and a plain one: what is done with it is done with both, which must answer alike.
type pair struct {
	t *testing.T
	r *Ram
	p plain
}

func newPair(t *testing.T, pages int) pair {
	t.Helper()
	r, e := New(pages)
	if r == nil || e != api.OK {
		t.Fatalf("P10.1: New(%d): error %d", pages, e)
	}
	return pair{t, r, newPlain(pages)}
}

func (x pair) read(addr uint64, n int) {
	x.t.Helper()
	b, e := x.r.Read(addr, n)
	if want, no := x.p.read(addr, n); !bytes.Equal(b, want) || e != no {
		x.t.Fatalf("P10.1: of %d pages, Read(%#x, %d): %d bytes, error %d; want %d, error %d, or other bytes", x.r.Pages(), addr, n, len(b), e, len(want), no)
	}
}

func (x pair) write(addr uint64, b []byte) {
	x.t.Helper()
	e := x.r.Write(addr, b)
	if no := x.p.write(addr, b); e != no {
		x.t.Fatalf("P10.1: of %d pages, Write(%#x, %d bytes): error %d, want %d", x.r.Pages(), addr, len(b), e, no)
	}
}

func (x pair) some(addr uint64, b []byte, strobe []bool) {
	x.t.Helper()
	e := x.r.Some(addr, b, strobe)
	if no := x.p.some(addr, b, strobe); e != no {
		x.t.Fatalf("P10.1: of %d pages, Some(%#x, %d bytes, %d bools): error %d, want %d", x.r.Pages(), addr, len(b), len(strobe), e, no)
	}
}

func (x pair) word(addr uint64, size int) {
	x.t.Helper()
	v, e := x.r.Word(addr, size)
	if want, no := x.p.word(addr, size); v != want || e != no {
		x.t.Fatalf("P10.2: of %d pages, Word(%#x, %d) = %#x, error %d; want %#x, error %d", x.r.Pages(), addr, size, v, e, want, no)
	}
}

func (x pair) put(addr uint64, size int, v uint64) {
	x.t.Helper()
	e := x.r.Put(addr, size, v)
	if no := x.p.put(addr, size, v); e != no {
		x.t.Fatalf("P10.2: of %d pages, Put(%#x, %d, %#x): error %d, want %d", x.r.Pages(), addr, size, v, e, no)
	}
}

// whole asks for all bytes there are.
func (x pair) whole() {
	x.t.Helper()
	b, e := x.r.Read(0x80000000, len(x.p))
	if e != api.OK || len(b) != len(x.p) {
		x.t.Fatalf("P10.1: of %d pages, Read of all bytes: %d bytes, error %d", x.r.Pages(), len(b), e)
	}
	for i, v := range b {
		if v != x.p[i] {
			x.t.Fatalf("P10.1: of %d pages, the byte at %#x is %#x, want %#x", x.r.Pages(), 0x80000000+i, v, x.p[i])
		}
	}
}
