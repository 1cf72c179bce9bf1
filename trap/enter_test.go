package trap

import (
	"testing"

	"tappet/api"
)

func holdEnter(t *testing.T, h api.Hart, cause, tval uint64) {
	t.Helper()
	if got, want := Enter(h, cause, tval), plainEnter(h, cause, tval); got != want {
		t.Fatalf("P8.1: Enter with the cause %#x and %#x of %+v:\n%+v, want\n%+v", cause, tval, h, got, want)
	}
}

// Each cause, its bits of Edeleg and Ideleg set and clear, alone and among others.
func TestEnterEachCause(t *testing.T) {
	for _, priv := range privs {
		for _, h := range harts(priv) {
			for _, cause := range causes() {
				its := uint64(1) << (cause % 64)
				words := []uint64{0, its, all - its, all}
				for _, h.C.Edeleg = range words {
					for _, h.C.Ideleg = range words {
						holdEnter(t, h, cause, cause*3)
					}
				}
			}
		}
	}
}

// What stands between the number of a cause and its highest bit is not looked at.
func TestEnterWithMoreBitsOfTheCause(t *testing.T) {
	for _, priv := range privs {
		for _, deleg := range [][2]uint64{{0, 0}, {all, 0}, {0, all}, {1<<8 | 1<<33, 1<<9 | 1<<33}} {
			h := full(priv)
			h.C.Edeleg, h.C.Ideleg = deleg[0], deleg[1]
			for _, cause := range causes() {
				for i := 6; i < 63; i++ {
					holdEnter(t, h, cause|1<<i, 7)
				}
				holdEnter(t, h, cause|(1<<63-64), 7)
			}
		}
	}
	g := Enter(api.Hart{Priv: api.User, C: api.Csrs{Tvec: 1}}, all, 1)
	if want := (api.Hart{PC: 252, Priv: api.Machine, C: api.Csrs{Tvec: 1, Cause: 0x800000000000003f, Tval: 1}}); g != want {
		t.Errorf("P8.1: a cause of all ones: %+v, want %+v", g, want)
	}
}

func TestEnterEachStatus(t *testing.T) {
	for _, priv := range append(noPrivs()[:20], privs[:]...) {
		for _, status := range statuses() {
			h := full(priv)
			h.C.Status = status
			for _, deleg := range []uint64{0, all} {
				h.C.Edeleg, h.C.Ideleg = deleg, ^deleg
				holdEnter(t, h, api.CauseCallU, 1)
				holdEnter(t, h, api.CauseInt|api.IntST, 2)
			}
		}
	}
}

func TestEnterEachPlace(t *testing.T) {
	for _, priv := range privs {
		for _, deleg := range []uint64{0, all} {
			h := full(priv)
			h.C.Edeleg, h.C.Ideleg = deleg, deleg
			for _, at := range places() {
				h.PC, h.C.Tvec, h.C.Stvec = at, at^0x5003, at^0xa002
				holdEnter(t, h, api.CauseBreak, at)
				for _, cause := range causes() {
					h.PC, h.C.Tvec, h.C.Stvec = at^0x33, at, ^at
					holdEnter(t, h, cause, 0)
					h.C.Tvec, h.C.Stvec = ^at, at
					holdEnter(t, h, cause, at)
				}
			}
		}
	}
}

func TestEnterFromNoPrivilege(t *testing.T) {
	for _, priv := range noPrivs() {
		for _, h := range harts(priv) {
			for _, cause := range []uint64{api.CauseCallU, api.CauseInt | api.IntSE, all} {
				for _, deleg := range []uint64{0, all} {
					h.C.Edeleg, h.C.Ideleg = deleg, deleg
					holdEnter(t, h, cause, 5)
				}
			}
		}
	}
	for _, r := range []struct{ priv, mpp int }{{2, 2}, {4, 0}, {5, 1}, {7, 3}, {-1, 3}, {-2, 2}, {-3, 1}, {-4, 0}} {
		g := Enter(api.Hart{Priv: r.priv, C: api.Csrs{Edeleg: all}}, api.CauseBreak, 0)
		if want := (api.Hart{Priv: api.Machine, C: api.Csrs{Edeleg: all, Cause: 3, Status: uint64(r.mpp) << 11}}); g != want {
			t.Errorf("P8.1: from the privilege %d: %+v, want %+v", r.priv, g, want)
		}
	}
}

func TestEnterByHand(t *testing.T) {
	x := [32]uint64{1: 11, 31: 41}
	rows := []struct {
		name        string
		h           api.Hart
		cause, tval uint64
		want        api.Hart
	}{
		{"from User to Super",
			api.Hart{PC: 0x40000006, Priv: api.User, X: x, Res: true, ResAt: 0x80000010, C: api.Csrs{Edeleg: 1 << 12, Ideleg: 2, Stvec: 0x80001003, Tvec: 5, Status: api.StSIE | api.StMIE | api.StSPP | api.StSUM | api.StMPP}},
			api.CauseFetchPage, 0x40000006,
			api.Hart{PC: 0x80001000, Priv: api.Super, X: x, C: api.Csrs{Edeleg: 1 << 12, Ideleg: 2, Stvec: 0x80001003, Tvec: 5, Scause: 12, Sepc: 0x40000004, Stval: 0x40000006, Status: api.StSPIE | api.StMIE | api.StSUM | api.StMPP}}},
		{"from Super to Super, SIE clear, an interrupt with a place of its own",
			api.Hart{PC: 0x40000008, Priv: api.Super, C: api.Csrs{Ideleg: 0x222, Stvec: 0x80001001, Status: api.StSPIE | api.StMPRV, Stval: 9}},
			api.CauseInt | api.IntSE, 0,
			api.Hart{PC: 0x80001024, Priv: api.Super, C: api.Csrs{Ideleg: 0x222, Stvec: 0x80001001, Status: api.StSPP | api.StMPRV, Scause: 1<<63 | 9, Sepc: 0x40000008}}},
		{"from Super to Machine, for the bit of Ideleg is set, not that of Edeleg",
			api.Hart{PC: 0x44, Priv: api.Super, C: api.Csrs{Ideleg: 1 << 5, Tvec: 0x201, Status: api.StMIE | api.StSIE | api.StMPP, Scause: 1}},
			api.CauseLoad, 0x88,
			api.Hart{PC: 0x200, Priv: api.Machine, C: api.Csrs{Ideleg: 1 << 5, Tvec: 0x201, Status: api.StMPIE | api.StSIE | 1<<11, Scause: 1, Cause: 5, Epc: 0x44, Tval: 0x88}}},
		{"from User to Machine, for the bit of Edeleg is set, not that of Ideleg",
			api.Hart{PC: all, Priv: api.User, C: api.Csrs{Edeleg: 1 << 7, Tvec: all, Status: api.StMPIE | api.StMPP | api.StSPP}},
			api.CauseInt | api.IntMT, 0,
			api.Hart{PC: 24, Priv: api.Machine, C: api.Csrs{Edeleg: 1 << 7, Tvec: all, Status: api.StSPP, Cause: 1<<63 | 7, Epc: all - 3}}},
		{"from Machine to Machine, whatever is delegated",
			api.Hart{PC: 0x80000000, Priv: api.Machine, C: api.Csrs{Edeleg: all, Ideleg: all, Tvec: 0x82, Stvec: 0x91, Status: api.StMIE}},
			api.CauseCallM, 3,
			api.Hart{PC: 0x80, Priv: api.Machine, C: api.Csrs{Edeleg: all, Ideleg: all, Tvec: 0x82, Stvec: 0x91, Status: api.StMPIE | api.StMPP, Cause: 11, Epc: 0x80000000, Tval: 3}}},
	}
	for _, r := range rows {
		if got := Enter(r.h, r.cause, r.tval); got != r.want {
			t.Errorf("P8.1: %s:\n%+v, want\n%+v", r.name, got, r.want)
		}
	}
}

func TestExample(t *testing.T) {
	g := Enter(api.Hart{Priv: api.User, C: api.Csrs{Edeleg: 1 << 8}}, api.CauseCallU, 0)
	if want := (api.Hart{Priv: api.Super, C: api.Csrs{Edeleg: 1 << 8, Scause: 8}}); g != want || g.C.Status&api.StSPP != 0 {
		t.Errorf("Example 1: the call: %+v, want %+v", g, want)
	}
	for _, priv := range privs {
		if g := Enter(api.Hart{Priv: priv, C: api.Csrs{Tvec: 0x101}}, api.CauseInt|7, 0); g.PC != 0x11c {
			t.Errorf("Example 1: the interrupt leads to %#x", g.PC)
		}
	}
}
