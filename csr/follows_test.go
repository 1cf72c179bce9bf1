package csr

import (
	"testing"

	"tappet/api"
)

// legal are values that a write stores whole, from any state that writes can leave behind; nil for those of which this hangs on the state.
func legal(n int) []uint64 {
	switch n {
	case api.CsrMstatus:
		return []uint64{0, 0x7e19aa, 0x0009aa, 0x7e0000, 0x800, 0x1800}
	case api.CsrSatp:
		return []uint64{0, 1<<60 - 1, 8 << 60, 9<<60 - 1}
	case api.CsrEvent3, api.CsrEvent3 + 1, api.CsrEvent3 + 2, api.CsrEvent3 + 3:
		return []uint64{0, 1, 2, 3, 4, 5}
	case api.CsrMedeleg:
		return []uint64{0, 0xb3ff, 0xa155, 0x8001}
	case api.CsrMideleg, api.CsrMip:
		return []uint64{0, 0x222, 2, 0x220}
	case api.CsrMie:
		return []uint64{0, 0xaaa, 0x888, 0x222, 8}
	case api.CsrMtvec, api.CsrStvec:
		return []uint64{0, 1, 4, 0x80000001, all - 2}
	case api.CsrMepc, api.CsrSepc:
		return []uint64{0, 4, 0x80000004, all - 3}
	case api.CsrMcause, api.CsrScause:
		return []uint64{0, 63, 1<<63 | 11, 1<<63 | 63}
	case api.CsrMcounteren, api.CsrScounteren:
		return []uint64{0, 0x7f, 0x2a, 0x55}
	case api.CsrInhibit:
		return []uint64{0, 0x7d, 0x28, 1}
	case api.CsrMscratch, api.CsrSscratch, api.CsrMtval, api.CsrStval, api.CsrMcycle, api.CsrMinstret, api.CsrHpm3, api.CsrHpm3 + 1, api.CsrHpm3 + 2, api.CsrHpm3 + 3:
		return words()
	}
	return nil
}

// always is what mstatus reads as beside what is stored.
func always(n int) uint64 {
	if n == api.CsrMstatus {
		return api.StXL
	}
	return 0
}

func TestAWrittenValueIsReadBack(t *testing.T) {
	for _, r := range rows() {
		for _, v := range legal(r.n) {
			for _, before := range []api.Csrs{{}, kept()} {
				for _, e := range envs() {
					e.Lines = 0
					c := after(t, before, r.n, v, e)
					wantRead(t, c, r.n, api.Machine, e, v|always(r.n))
				}
			}
		}
	}
}

// What is read back, written again, is read back again: nothing is lost but the bits that are not stored.
func TestStoredOnceAndForAll(t *testing.T) {
	for _, r := range rows() {
		if !r.writable {
			continue
		}
		for _, v := range words() {
			for _, e := range envs() {
				once := after(t, kept(), r.n, v, e)
				if twice := after(t, once, r.n, v, e); twice != once {
					t.Fatalf("What follows: %#x written to %#x twice: %+v, then %+v", v, r.n, once, twice)
				}
			}
		}
	}
}

// withoutCounters is c with the counters as they read in e, so that states differ if anything else does.
func withoutCounters(c api.Csrs, e api.Env) api.Csrs {
	c.Cycle, c.At = Cycle(c, e), 0
	return c
}

func TestWritingBackChangesNothing(t *testing.T) {
	for _, r := range rows() {
		if !r.writable {
			continue
		}
		for _, c := range []api.Csrs{{}, kept(), after(t, kept(), api.CsrMstatus, all, api.Env{}), after(t, kept(), api.CsrMideleg, all, api.Env{}), after(t, kept(), api.CsrInhibit, all, api.Env{Cycle: 3})} {
			for _, e := range envs() {
				// A plain write of mip stores the line of the external interrupt as Ip's own bit; CSR instructions that set or clear don't.
				if r.n == api.CsrMip {
					e.Lines &^= 1 << api.IntSE
				}
				v, no := Read(c, r.n, api.Machine, e)
				if no != api.OK {
					t.Fatalf("P7.1: Read of %#x: error %d", r.n, no)
				}
				if got := after(t, c, r.n, v, e); withoutCounters(got, e) != withoutCounters(c, e) {
					t.Fatalf("What follows: %#x, written back to %#x: %+v becomes %+v", v, r.n, c, got)
				}
			}
		}
	}
}

func TestSettingAndClearingNothingChangesNothing(t *testing.T) {
	for _, r := range rows() {
		if !r.writable {
			continue
		}
		for _, c := range []api.Csrs{{}, kept()} {
			for _, e := range envs() {
				for fun := 2; fun <= 3; fun++ {
					if _, got, no := Modify(c, r.n, api.Machine, fun, 0, true, e); withoutCounters(got, e) != withoutCounters(c, e) || no != api.OK {
						t.Fatalf("What follows: no bit of %#x set or cleared (%d): %+v becomes %+v, %d", r.n, fun, c, got, no)
					}
				}
			}
		}
	}
}

func read(t *testing.T, c api.Csrs, n int, e api.Env) uint64 {
	t.Helper()
	v, no := Read(c, n, api.Machine, e)
	if no != api.OK {
		t.Fatalf("P7.1: Read of %#x in Machine: error %d", n, no)
	}
	return v
}

// Each view is held against what it is a view of, behind writes of either.
func TestViews(t *testing.T) {
	for _, v := range words() {
		for _, e := range envs() {
			for _, n := range []int{api.CsrMstatus, api.CsrSstatus, api.CsrMie, api.CsrSie, api.CsrMip, api.CsrSip, api.CsrMideleg, api.CsrMcycle, api.CsrMinstret, api.CsrHpm3, api.CsrHpm3 + 3} {
				c := after(t, kept(), n, v, e)
				holdViews(t, c, e)
			}
		}
	}
}

func holdViews(t *testing.T, c api.Csrs, e api.Env) {
	t.Helper()
	const status = 0x2000c0122
	ideleg := read(t, c, api.CsrMideleg, e)
	pairs := [][2]uint64{
		{read(t, c, api.CsrSstatus, e), read(t, c, api.CsrMstatus, e) & status},
		{read(t, c, api.CsrSie, e), read(t, c, api.CsrMie, e) & ideleg},
		{read(t, c, api.CsrSip, e), read(t, c, api.CsrMip, e) & ideleg},
		{read(t, c, api.CsrCycle, e), read(t, c, api.CsrMcycle, e)},
		{read(t, c, api.CsrInstret, e), read(t, c, api.CsrMinstret, e)},
	}
	for k := range 4 {
		pairs = append(pairs, [2]uint64{read(t, c, api.CsrUhpm3+k, e), read(t, c, api.CsrHpm3+k, e)})
	}
	for i, p := range pairs {
		if p[0] != p[1] {
			t.Fatalf("What follows: the view %d shows %#x, not %#x", i, p[0], p[1])
		}
	}
}

// Calls know only what they are given, and leave it as it was.
func TestCallsKeepNothing(t *testing.T) {
	c, e := full(), envs()[1]
	first := after(t, c, api.CsrMscratch, 5, e)
	after(t, first, api.CsrMstatus, all, e)
	after(t, first, api.CsrInhibit, all, api.Env{Cycle: 1})
	if c != full() || after(t, c, api.CsrMscratch, 5, e) != first || Reset() != (api.Csrs{}) {
		t.Fatal("R2: a call changed what lies outside of it")
	}
}

func TestExample(t *testing.T) {
	if c := after(t, Reset(), api.CsrMstatus, all, api.Env{}); c != (api.Csrs{Status: 0x7e19aa}) || c.Status&api.StMPP != 3<<11 {
		t.Fatalf("Example 1: all ones to mstatus: %+v", c)
	}
	if c := after(t, kept(), api.CsrSatp, 9<<60, api.Env{}); c != kept() {
		t.Fatalf("Example 1: 9 * 2^60 to satp: %+v", c)
	}
	if v, no := Read(Reset(), api.CsrCycle, api.User, api.Env{Cycle: 5}); v != 0 || no != api.ErrForm {
		t.Fatalf("Example 1: cycle in User: %d, %d", v, no)
	}
}
