package csr

import (
	"testing"

	"tappet/api"
)

func TestReset(t *testing.T) {
	if got := Reset(); got != (api.Csrs{}) {
		t.Fatalf("P7.1: Reset() = %+v", got)
	}
}

func wantRead(t *testing.T, c api.Csrs, n, priv int, e api.Env, want uint64) {
	t.Helper()
	if got, no := Read(c, n, priv, e); got != want || no != api.OK {
		t.Fatalf("P7.1: Read(%+v, %#x, %d, %+v) = %#x, %d, want %#x", c, n, priv, e, got, no, want)
	}
}

func wantWrite(t *testing.T, c api.Csrs, n, priv int, v uint64, e api.Env, want api.Csrs) {
	t.Helper()
	if got, no := Write(c, n, priv, v, e); got != want || no != api.OK {
		t.Fatalf("P7.1: Write(%+v, %#x, %d, %#x, %+v) = %+v, %d, want %+v", c, n, priv, v, e, got, no, want)
	}
}

// after is c behind a write in Machine, which must be permitted.
func after(t *testing.T, c api.Csrs, n int, v uint64, e api.Env) api.Csrs {
	t.Helper()
	c, no := Write(c, n, api.Machine, v, e)
	if no != api.OK {
		t.Fatalf("P7.1: Write of %#x to %#x in Machine: error %d", v, n, no)
	}
	return c
}

func TestReadOfEachRow(t *testing.T) {
	for _, r := range rows() {
		for _, c := range states() {
			for _, e := range envs() {
				for _, priv := range privs {
					if readable(c, r, priv) {
						wantRead(t, c, r.n, priv, e, r.read(c, e))
					}
				}
			}
		}
	}
}

func TestWriteOfEachRow(t *testing.T) {
	for _, r := range rows() {
		for _, c := range states() {
			for _, e := range envs() {
				for _, v := range words() {
					for _, priv := range privs {
						if readable(c, r, priv) && r.writable {
							want := c
							r.write(&want, v, e)
							wantWrite(t, c, r.n, priv, v, e, want)
						}
					}
				}
			}
		}
	}
}

// Values written out by hand: what all ones leave behind in a state of zeros, and what it reads as.
func TestAllOnes(t *testing.T) {
	const none = 1 << 63
	for _, r := range []struct {
		n     int
		field func(c *api.Csrs) *uint64
		kept  uint64
		read  uint64
	}{
		{api.CsrMstatus, func(c *api.Csrs) *uint64 { return &c.Status }, 0x7e19aa, 0xa007e19aa},
		{api.CsrSstatus, func(c *api.Csrs) *uint64 { return &c.Status }, 0x0c0122, 0x2000c0122},
		{api.CsrMisa, func(c *api.Csrs) *uint64 { return &c.Status }, 0, 0x8000000000141101},
		{api.CsrMedeleg, func(c *api.Csrs) *uint64 { return &c.Edeleg }, 0xb3ff, 0xb3ff},
		{api.CsrMideleg, func(c *api.Csrs) *uint64 { return &c.Ideleg }, 0x222, 0x222},
		{api.CsrMie, func(c *api.Csrs) *uint64 { return &c.Ie }, 0xaaa, 0xaaa},
		{api.CsrSie, func(c *api.Csrs) *uint64 { return &c.Ie }, 0, 0},
		{api.CsrMip, func(c *api.Csrs) *uint64 { return &c.Ip }, 0x222, 0x222},
		{api.CsrSip, func(c *api.Csrs) *uint64 { return &c.Ip }, 0, 0},
		{api.CsrMtvec, func(c *api.Csrs) *uint64 { return &c.Tvec }, 0xfffffffffffffffd, 0xfffffffffffffffd},
		{api.CsrStvec, func(c *api.Csrs) *uint64 { return &c.Stvec }, 0xfffffffffffffffd, 0xfffffffffffffffd},
		{api.CsrMcounteren, func(c *api.Csrs) *uint64 { return &c.Counteren }, 0x7f, 0x7f},
		{api.CsrScounteren, func(c *api.Csrs) *uint64 { return &c.Scounteren }, 0x7f, 0x7f},
		{api.CsrInhibit, func(c *api.Csrs) *uint64 { return &c.Inhibit }, 0x7d, 0x7d},
		{api.CsrMscratch, func(c *api.Csrs) *uint64 { return &c.Scratch }, all, all},
		{api.CsrSscratch, func(c *api.Csrs) *uint64 { return &c.Sscratch }, all, all},
		{api.CsrMtval, func(c *api.Csrs) *uint64 { return &c.Tval }, all, all},
		{api.CsrStval, func(c *api.Csrs) *uint64 { return &c.Stval }, all, all},
		{api.CsrMepc, func(c *api.Csrs) *uint64 { return &c.Epc }, 0xfffffffffffffffc, 0xfffffffffffffffc},
		{api.CsrSepc, func(c *api.Csrs) *uint64 { return &c.Sepc }, 0xfffffffffffffffc, 0xfffffffffffffffc},
		{api.CsrMcause, func(c *api.Csrs) *uint64 { return &c.Cause }, 0x800000000000003f, 0x800000000000003f},
		{api.CsrScause, func(c *api.Csrs) *uint64 { return &c.Scause }, 0x800000000000003f, 0x800000000000003f},
		{api.CsrSatp, func(c *api.Csrs) *uint64 { return &c.Satp }, 0, 0},
		{api.CsrMcycle, func(c *api.Csrs) *uint64 { return &c.Cycle }, all, all},
		{api.CsrMinstret, func(c *api.Csrs) *uint64 { return &c.Instret }, all, all},
		{api.CsrEvent3, func(c *api.Csrs) *uint64 { return &c.Event[0] }, 0, 0},
		{api.CsrHpm3, func(c *api.Csrs) *uint64 { return &c.Hpm[0] }, all, all},
	} {
		want := api.Csrs{}
		*r.field(&want) = r.kept
		wantWrite(t, api.Csrs{}, r.n, api.Machine, all, api.Env{}, want)
		wantRead(t, want, r.n, api.Machine, api.Env{}, r.read)
		// Of all ones, zeros leave what is not stored there alone.
		want = ones()
		*r.field(&want) = 0
		switch r.n {
		case api.CsrSstatus:
			want.Status = 0xfffffffffff3fedd
		case api.CsrMisa:
			want.Status = all
		case api.CsrSip:
			want.Ip = all - 2
		case api.CsrInhibit, api.CsrMcycle:
			want.At = none
		case api.CsrHpm3:
			want.Hpm[0] = 1
		}
		wantWrite(t, ones(), r.n, api.Machine, 0, api.Env{Cycle: none, Hpm: [4]uint64{all}}, want)
	}
}

func TestNumbersThatReadAsZero(t *testing.T) {
	for _, n := range []int{api.CsrMvendor, api.CsrMarch, api.CsrMimp, api.CsrMhart, api.CsrMconfig} {
		for _, e := range envs() {
			wantRead(t, ones(), n, api.Machine, e, 0)
		}
	}
}

// Each of the four over each of them: 2 leaves what was there, and all else of the write is done.
func TestMppWritten(t *testing.T) {
	for old := range uint64(4) {
		for mpp := range uint64(4) {
			for _, rest := range []uint64{0, all &^ api.StMPP, api.StSIE | api.StTSR} {
				for _, before := range []uint64{0, 0x7e01aa} {
					want := rest&0x7e01aa | mpp<<11
					if mpp == 2 {
						want = rest&0x7e01aa | old<<11
					}
					c := full()
					c.Status = before | old<<11
					d := c
					d.Status = want
					wantWrite(t, c, api.CsrMstatus, api.Machine, rest|mpp<<11, api.Env{}, d)
				}
			}
		}
	}
}

func TestSstatusLeavesAllElseOfStatus(t *testing.T) {
	const views = api.StSIE | api.StSPIE | api.StSPP | api.StSUM | api.StMXR
	for _, before := range []uint64{0, 0x7e19aa, 0x7e1888, views, all, 0x1000} {
		for _, v := range words() {
			c := api.Csrs{Status: before}
			for _, priv := range []int{api.Super, api.Machine} {
				wantWrite(t, c, api.CsrSstatus, priv, v, api.Env{}, api.Csrs{Status: before&^views | v&views})
				wantRead(t, c, api.CsrSstatus, priv, api.Env{}, before&views|2<<32)
			}
		}
	}
}

func TestSatpModes(t *testing.T) {
	for mode := range uint64(16) {
		for _, low := range []uint64{0, 5, 1<<60 - 1, 0x1234 << 44} {
			for _, old := range []uint64{0, 8<<60 | 77, 42, 9 << 60} {
				c := full()
				c.Status = 0
				c.Satp = old
				want := c
				if mode == 0 || mode == 8 {
					want.Satp = mode<<60 | low
				}
				wantWrite(t, c, api.CsrSatp, api.Machine, mode<<60|low, api.Env{Cycle: 8}, want)
				wantWrite(t, c, api.CsrSatp, api.Super, mode<<60|low, api.Env{Cycle: 8}, want)
			}
		}
	}
}

func TestEventsWritten(t *testing.T) {
	wants := [...]uint64{0, 1, 2, 3, 4, 5, 0, 0}
	for k := range 4 {
		for number, want := range wants {
			for _, above := range []uint64{0, 8, 16, 1 << 63, all &^ 7, 0xff00} {
				c := full()
				d := c
				d.Event[k] = want
				wantWrite(t, c, api.CsrEvent3+k, api.Machine, above|uint64(number), api.Env{}, d)
				wantRead(t, d, api.CsrEvent3+k, api.Machine, api.Env{}, want)
			}
		}
	}
}

// What sie and sip read and replace is what Ideleg names; of Ip, bit 1 alone is replaced.
func TestDelegatedInterrupts(t *testing.T) {
	for _, r := range []struct{ ideleg, ie, ip, lines, v, sie, sip, ieAfter, ipAfter uint64 }{
		{0, 0xaaa, 0x222, 0xaaa, 0, 0, 0, 0xaaa, 0x222},
		{0, 0, 0, 0, all, 0, 0, 0, 0},
		{0x222, 0xaaa, 0x222, 0, 0, 0x222, 0x222, 0x888, 0x220},
		{0x222, 0, 0, 0, all, 0, 0, 0x222, 2},
		{0x222, 0x888, 0, 0xaaa, 0x20, 0, 0x200, 0x8a8, 0},
		{0x222, 0x888, 0x20, 0x888, all, 0, 0x20, 0xaaa, 0x22},
		{2, 0xaaa, 0x222, all, 0, 2, 2, 0xaa8, 0x220},
		{2, 0, 0, all, all, 0, 0, 2, 2},
		{0x20, 0xaaa, 0x222, all, 0, 0x20, 0x20, 0xa8a, 0x222},
		{0x20, 0, 0, all, all, 0, 0, 0x20, 0},
		{0x200, 0xaaa, 0x22, all, 0, 0x200, 0x200, 0x8aa, 0x22},
		{0x200, 0, 0, 0, all, 0, 0, 0x200, 0},
		{0x202, 0x20a, 0, 0x200, 2, 0x202, 0x200, 0xa, 2},
		{0x220, 0x2a, 0x22, 0, 2, 0x20, 0x20, 0xa, 0x22},
	} {
		for _, priv := range []int{api.Super, api.Machine} {
			c, e := full(), api.Env{Lines: r.lines}
			c.Ideleg, c.Ie, c.Ip = r.ideleg, r.ie, r.ip
			wantRead(t, c, api.CsrSie, priv, e, r.sie)
			wantRead(t, c, api.CsrSip, priv, e, r.sip)
			d := c
			d.Ie = r.ieAfter
			wantWrite(t, c, api.CsrSie, priv, r.v, e, d)
			d = c
			d.Ip = r.ipAfter
			wantWrite(t, c, api.CsrSip, priv, r.v, e, d)
		}
	}
}

// The lines are seen in mip and sip, and never stored.
func TestMipWritten(t *testing.T) {
	for _, lines := range []uint64{0, all, 0x888, 0x200, 0x222} {
		for _, v := range words() {
			wantWrite(t, api.Csrs{Ip: 0x20}, api.CsrMip, api.Machine, v, api.Env{Lines: lines}, api.Csrs{Ip: v & 0x222})
		}
		wantRead(t, api.Csrs{Ip: 0x22}, api.CsrMip, api.Machine, api.Env{Lines: lines}, 0x22|lines&0xa88)
	}
}

// Of each of the four, what is written is the count from then on; all others stand.
func TestEventCounters(t *testing.T) {
	for k := range 4 {
		for _, r := range []struct{ v, then, now, want uint64 }{
			{50, 60, 62, 52},
			{0, 60, 60, 0},
			{0, 60, 61, 1},
			{all, 0, 0, all},
			{all, 0, 1, 0},
			{all, 7, 9, 1},
			{5, all, 2, 8},
			{5, all, all, 5},
			{1 << 63, 1 << 63, 0, 0},
			{3, 10, 4, all - 2},
		} {
			e := api.Env{Hpm: [4]uint64{101, 102, 103, 104}}
			e.Hpm[k] = r.then
			c := full()
			d := c
			d.Hpm[k] = r.v - r.then
			wantWrite(t, c, api.CsrHpm3+k, api.Machine, r.v, e, d)
			e.Hpm[k] = r.now
			wantRead(t, d, api.CsrHpm3+k, api.Machine, e, r.want)
			wantRead(t, d, api.CsrUhpm3+k, api.Machine, e, r.want)
			for other := range 4 {
				if other != k {
					wantRead(t, d, api.CsrHpm3+other, api.Machine, e, c.Hpm[other]+e.Hpm[other])
				}
			}
		}
	}
}

func TestTimeIsThatOfTheWorld(t *testing.T) {
	for _, time := range []uint64{0, 1, 1 << 32, all} {
		wantRead(t, full(), api.CsrTime, api.Machine, api.Env{Time: time, Cycle: 9}, time)
	}
}

func TestInstructionsRetired(t *testing.T) {
	for _, v := range words() {
		c := after(t, full(), api.CsrMinstret, v, api.Env{})
		want := full()
		want.Instret = v
		if c != want {
			t.Fatalf("P7.1: minstret written as %#x: %+v", v, c)
		}
		wantRead(t, c, api.CsrMinstret, api.Machine, api.Env{Cycle: 3}, v)
		wantRead(t, c, api.CsrInstret, api.Machine, api.Env{Cycle: 3}, v)
	}
}
