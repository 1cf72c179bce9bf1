package trap

import (
	"testing"

	"tappet/api"
)

func TestPrivOfEachKind(t *testing.T) {
	kinds := append([]int{api.Fetch, api.Load, api.Store}, noKinds()...)
	for _, priv := range append(noPrivs()[:20], privs[:]...) {
		for _, kind := range kinds {
			for mpp := range uint64(4) {
				for _, status := range []uint64{0, api.StMPRV, all - api.StMPRV, all} {
					h := full(priv)
					h.C.Status = status&^api.StMPP | mpp<<11
					if got, want := Priv(h, kind), plainPriv(h, kind); got != want {
						t.Fatalf("P8.3: Priv of the kind %d at %d with Status %#x: %d, want %d", kind, priv, h.C.Status, got, want)
					}
				}
			}
		}
	}
}

func TestPrivByHand(t *testing.T) {
	rows := []struct{ priv, kind, mprv, mpp, want int }{
		{api.Machine, api.Load, 0, 1, api.Machine},
		{api.Machine, api.Load, 1, 0, api.User},
		{api.Machine, api.Load, 1, 1, api.Super},
		{api.User, api.Load, 1, 2, api.Machine},
		{api.User, api.Store, 1, 3, api.Machine},
		{api.Machine, api.Store, 1, 0, api.User},
		{api.Super, api.Store, 0, 3, api.Super},
		{api.Machine, api.Fetch, 1, 0, api.Machine},
		{api.User, api.Fetch, 1, 3, api.User},
		{2, api.Fetch, 1, 1, 2},
		{2, api.Load, 0, 1, 2},
		{-1, api.Load, 1, 1, api.Super},
		{api.User, 3, 1, 1, api.Super}, // whatever is no fetch
		{api.User, -1, 1, 2, api.Machine},
		{api.User, 3, 0, 1, api.User},
	}
	for i, r := range rows {
		h := api.Hart{Priv: r.priv, C: api.Csrs{Status: uint64(r.mprv<<17 | r.mpp<<11)}}
		if got := Priv(h, r.kind); got != r.want {
			t.Errorf("P8.3: Priv in the row %d: %d, want %d", i, got, r.want)
		}
	}
}
