package csr

import (
	"testing"

	"tappet/api"
)

// refused asks for ErrForm and nothing beside it, by Read, by Write and by Modify.
func refused(t *testing.T, c api.Csrs, n, priv int, e api.Env) {
	t.Helper()
	if v, no := Read(c, n, priv, e); v != 0 || no != api.ErrForm {
		t.Fatalf("P7.1: Read(%+v, %#x, %d) = %#x, %d, want 0, ErrForm", c, n, priv, v, no)
	}
	unwritable(t, c, n, priv, e)
	for fun := 1; fun <= 3; fun++ {
		wantNoModify(t, c, n, priv, fun, 0, false, e)
	}
}

func unwritable(t *testing.T, c api.Csrs, n, priv int, e api.Env) {
	t.Helper()
	for _, v := range []uint64{0, 1, all} {
		if d, no := Write(c, n, priv, v, e); d != (api.Csrs{}) || no != api.ErrForm {
			t.Fatalf("P7.1: Write(%+v, %#x, %d, %#x) = %+v, %d, want zeros, ErrForm", c, n, priv, v, d, no)
		}
		for fun := 1; fun <= 3; fun++ {
			wantNoModify(t, c, n, priv, fun, v, true, e)
		}
	}
}

func permit(t *testing.T, c api.Csrs, n, priv int, writable bool) {
	t.Helper()
	if _, no := Read(c, n, priv, api.Env{}); no != api.OK {
		t.Fatalf("P7.1: Read(%+v, %#x, %d): error %d", c, n, priv, no)
	}
	if _, no := Write(c, n, priv, 0, api.Env{}); (no == api.OK) != writable {
		t.Fatalf("P7.1: Write(%+v, %#x, %d): error %d", c, n, priv, no)
	}
}

func TestRightsOfEachRow(t *testing.T) {
	for _, r := range rows() {
		for _, c := range states() {
			for _, priv := range privs {
				switch {
				case !readable(c, r, priv):
					refused(t, c, r.n, priv, api.Env{Cycle: 5, Time: 6, Lines: all, Hpm: [4]uint64{1, 2, 3, 4}})
				case !r.writable:
					unwritable(t, c, r.n, priv, api.Env{Cycle: 5, Time: 6})
					permit(t, c, r.n, priv, false)
				default:
					permit(t, c, r.n, priv, true)
				}
			}
		}
	}
}

// The numbers of package api, each with who may read it at least, and whether it can be written; all counters are open.
func TestRightsByName(t *testing.T) {
	c := api.Csrs{Counteren: 0x7f, Scounteren: 0x7f}
	known := 0
	for _, group := range []struct {
		least    int
		writable bool
		list     []int
	}{
		{api.Machine, true, []int{
			api.CsrMstatus, api.CsrMisa, api.CsrMedeleg, api.CsrMideleg, api.CsrMie, api.CsrMtvec, api.CsrMcounteren, api.CsrInhibit,
			api.CsrEvent3, api.CsrEvent3 + 1, api.CsrEvent3 + 2, api.CsrEvent3 + 3, api.CsrMscratch, api.CsrMepc, api.CsrMcause, api.CsrMtval, api.CsrMip,
			api.CsrMcycle, api.CsrMinstret, api.CsrHpm3, api.CsrHpm3 + 1, api.CsrHpm3 + 2, api.CsrHpm3 + 3,
		}},
		{api.Machine, false, []int{api.CsrMvendor, api.CsrMarch, api.CsrMimp, api.CsrMhart, api.CsrMconfig}},
		{api.Super, true, []int{
			api.CsrSstatus, api.CsrSie, api.CsrStvec, api.CsrScounteren, api.CsrSscratch, api.CsrSepc, api.CsrScause, api.CsrStval, api.CsrSip, api.CsrSatp,
		}},
		{api.User, false, []int{api.CsrCycle, api.CsrTime, api.CsrInstret, api.CsrUhpm3, api.CsrUhpm3 + 1, api.CsrUhpm3 + 2, api.CsrUhpm3 + 3}},
	} {
		for _, n := range group.list {
			known++
			if r, exists := byNumber(n); !exists || r.least != group.least || r.writable != group.writable {
				t.Fatalf("the row of %#x is not as its name says", n)
			}
			for _, priv := range privs {
				if priv < group.least {
					refused(t, c, n, priv, api.Env{})
				} else {
					permit(t, c, n, priv, group.writable)
				}
			}
		}
	}
	if known != len(rows()) {
		t.Fatalf("%d CSRs by name, %d rows", known, len(rows()))
	}
}

func TestNumbersThatAreNoCsr(t *testing.T) {
	for _, n := range noCsrs() {
		for _, priv := range privs {
			refused(t, ones(), n, priv, api.Env{Cycle: all, Time: all, Lines: all})
		}
	}
	for _, n := range []int{-1, 0, 0x101, 0x107, 0x145, 0x181, 0x30a, 0x307, 0x310, 0x321, 0x322, 0x327, 0x345, 0x7c0, 0xb01, 0xb07, 0xc07, 0xc83, 0xf10, 0xf16, 0x1000, 0x1300} {
		if _, exists := byNumber(n); exists {
			t.Fatalf("%#x has a row", n)
		}
		refused(t, api.Csrs{}, n, api.Machine, api.Env{})
	}
}

func TestPrivilegesThatAreNone(t *testing.T) {
	for _, r := range rows() {
		for _, priv := range noPrivs() {
			refused(t, api.Csrs{Counteren: all, Scounteren: all}, r.n, priv, api.Env{Cycle: 4})
		}
	}
}

// Each bit alone, and each missing alone, of both.
func TestCountersOpened(t *testing.T) {
	for bit := range 7 {
		for n := api.CsrCycle; n <= api.CsrUhpm3+3; n++ {
			one, others := uint64(1)<<bit, all-uint64(1)<<bit
			this := n-api.CsrCycle == bit
			for _, r := range []struct {
				counteren, scounteren uint64
				super, user           bool
			}{
				{0, 0, false, false},
				{one, 0, this, false},
				{0, one, false, false},
				{0, all, false, false},
				{all, 0, true, false},
				{all, all, true, true},
				{one, one, this, this},
				{one, all, this, this},
				{all, one, true, this},
				{one, others, this, false},
				{others, one, !this, false},
				{others, others, !this, !this},
				{others, all, !this, !this},
				{all, others, true, !this},
			} {
				c := api.Csrs{Counteren: r.counteren, Scounteren: r.scounteren}
				for _, o := range []struct {
					priv int
					open bool
				}{{api.Machine, true}, {api.Super, r.super}, {api.User, r.user}} {
					if o.open {
						permit(t, c, n, o.priv, false)
					} else {
						refused(t, c, n, o.priv, api.Env{Time: 7, Cycle: 8, Hpm: [4]uint64{1, 2, 3, 4}})
					}
				}
			}
		}
	}
}

// What opens the user's counters does not open those of the machine, nor close them.
func TestCounterenIsForTheUsersCountersAlone(t *testing.T) {
	for _, open := range []uint64{0, 0x7f, all} {
		c := api.Csrs{Counteren: open, Scounteren: open}
		for _, n := range []int{api.CsrMcycle, api.CsrMinstret, api.CsrHpm3, api.CsrHpm3 + 1, api.CsrHpm3 + 2, api.CsrHpm3 + 3} {
			permit(t, c, n, api.Machine, true)
			refused(t, c, n, api.Super, api.Env{})
			refused(t, c, n, api.User, api.Env{})
		}
		permit(t, c, api.CsrSscratch, api.Super, true)
		permit(t, c, api.CsrScounteren, api.Super, true)
	}
}

func TestTvm(t *testing.T) {
	for _, status := range []uint64{0, all &^ api.StTVM, api.StTW, api.StTSR} {
		permit(t, api.Csrs{Status: status}, api.CsrSatp, api.Super, true)
		permit(t, api.Csrs{Status: status}, api.CsrSatp, api.Machine, true)
		refused(t, api.Csrs{Status: status, Satp: 5}, api.CsrSatp, api.User, api.Env{})
	}
	for _, status := range []uint64{api.StTVM, all} {
		refused(t, api.Csrs{Status: status, Satp: 5}, api.CsrSatp, api.Super, api.Env{})
		refused(t, api.Csrs{Status: status, Satp: 5}, api.CsrSatp, api.User, api.Env{})
		permit(t, api.Csrs{Status: status}, api.CsrSatp, api.Machine, true)
		for _, n := range []int{api.CsrSstatus, api.CsrSie, api.CsrStvec, api.CsrScounteren, api.CsrSscratch, api.CsrSepc, api.CsrScause, api.CsrStval, api.CsrSip} {
			permit(t, api.Csrs{Status: status}, n, api.Super, true)
		}
	}
}
