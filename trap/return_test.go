package trap

import (
	"testing"

	"tappet/api"
)

func holdReturns(t *testing.T, h api.Hart) {
	t.Helper()
	if got, want := Mret(h), plainMret(h); got != want {
		t.Fatalf("P8.2: Mret of %+v:\n%+v, want\n%+v", h, got, want)
	}
	if got, want := Sret(h), plainSret(h); got != want {
		t.Fatalf("P8.2: Sret of %+v:\n%+v, want\n%+v", h, got, want)
	}
}

func TestReturnsOfEachStatus(t *testing.T) {
	for _, priv := range privs {
		for _, h := range harts(priv) {
			for _, h.C.Status = range statuses() {
				holdReturns(t, h)
			}
		}
	}
}

func TestReturnsToEachPlace(t *testing.T) {
	for _, h := range harts(api.Machine) {
		for _, at := range places() {
			h.C.Epc, h.C.Sepc = at, ^at
			holdReturns(t, h)
		}
	}
}

// Who returns is not asked: the privilege ahead of a return plays no part.
func TestReturnsFromNoPrivilege(t *testing.T) {
	for _, priv := range noPrivs() {
		for _, h := range harts(priv) {
			holdReturns(t, h)
			mpp2 := h
			mpp2.C.Status = h.C.Status&^api.StMPP | 2<<11
			holdReturns(t, mpp2)
		}
	}
}

func TestMretByHand(t *testing.T) {
	const others = api.StSIE | api.StSPIE | api.StSPP | api.StSUM | api.StMXR | api.StTVM | api.StTW | api.StTSR
	rows := []struct {
		status uint64
		priv   int
		want   uint64
	}{
		{0, api.User, api.StMPIE},
		{api.StMIE, api.User, api.StMPIE},
		{api.StMPIE, api.User, api.StMPIE | api.StMIE},
		{api.StMPRV, api.User, api.StMPIE},
		{1<<11 | api.StMPRV | others, api.Super, api.StMPIE | others},
		{2<<11 | api.StMPRV, api.Machine, api.StMPIE | api.StMPRV},
		{3<<11 | api.StMPRV | api.StMPIE | others, api.Machine, api.StMPIE | api.StMIE | api.StMPRV | others},
		{3<<11 | api.StMIE, api.Machine, api.StMPIE},
	}
	for _, r := range rows {
		for _, before := range privs {
			h := api.Hart{PC: 4, Priv: before, X: [32]uint64{5: 6}, Res: true, ResAt: 8, C: api.Csrs{Status: r.status, Epc: 0x80000102, Sepc: 7, Cause: 8}}
			want := api.Hart{PC: 0x80000102, Priv: r.priv, X: [32]uint64{5: 6}, C: api.Csrs{Status: r.want, Epc: 0x80000102, Sepc: 7, Cause: 8}}
			if got := Mret(h); got != want {
				t.Errorf("P8.2: Mret with Status %#x: %+v, want %+v", r.status, got, want)
			}
		}
	}
}

func TestSretByHand(t *testing.T) {
	const others = api.StMIE | api.StMPIE | api.StMPP | api.StSUM | api.StMXR | api.StTVM | api.StTW | api.StTSR
	rows := []struct {
		status uint64
		priv   int
		want   uint64
	}{
		{0, api.User, api.StSPIE},
		{api.StSIE, api.User, api.StSPIE},
		{api.StSPIE, api.User, api.StSPIE | api.StSIE},
		{api.StMPRV | others, api.User, api.StSPIE | others},
		{api.StSPP, api.Super, api.StSPIE},
		{api.StSPP | api.StSPIE | api.StMPRV | others, api.Super, api.StSPIE | api.StSIE | others},
	}
	for _, r := range rows {
		for _, before := range privs {
			h := api.Hart{PC: 4, Priv: before, X: [32]uint64{9: 1}, Res: true, ResAt: 16, C: api.Csrs{Status: r.status, Epc: 7, Sepc: 0x40000203, Scause: 8}}
			want := api.Hart{PC: 0x40000203, Priv: r.priv, X: [32]uint64{9: 1}, C: api.Csrs{Status: r.want, Epc: 7, Sepc: 0x40000203, Scause: 8}}
			if got := Sret(h); got != want {
				t.Errorf("P8.2: Sret with Status %#x: %+v, want %+v", r.status, got, want)
			}
		}
	}
}
