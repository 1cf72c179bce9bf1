package trap

import (
	"testing"

	"tappet/api"
)

// six are the interrupts in their order.
var six = [...]int{api.IntME, api.IntMS, api.IntMT, api.IntSE, api.IntSS, api.IntST}

const noneOfTheSix = all &^ 0xaaa

// holdSelect asks at each privilege, with MIE and SIE set and clear.
func holdSelect(t *testing.T, h api.Hart, e api.Env) {
	t.Helper()
	for _, h.Priv = range []int{api.User, api.Super, api.Machine, 2, -1} {
		for _, enabled := range []uint64{0, api.StSIE, api.StMIE, api.StSIE | api.StMIE} {
			h.C.Status = h.C.Status&^(api.StSIE|api.StMIE) | enabled
			holdChoice(t, h, e)
		}
	}
}

func holdChoice(t *testing.T, h api.Hart, e api.Env) {
	t.Helper()
	got, is := Select(h, e)
	if want, some := plainSelect(h, e); got != want || is != some {
		t.Fatalf("P8.3: Select: %#x, %v, want %#x, %v: privilege %d, Status %#x, Ie %#x, Ip %#x, Ideleg %#x, Lines %#x", got, is, want, some, h.Priv, h.C.Status, h.C.Ie, h.C.Ip, h.C.Ideleg, e.Lines)
	}
	if got, want := Wakes(h, e), plainWakes(h, e); got != want {
		t.Fatalf("P8.3: Wakes: %v, want %v: privilege %d, Status %#x, Ie %#x, Ip %#x, Ideleg %#x, Lines %#x", got, want, h.Priv, h.C.Status, h.C.Ie, h.C.Ip, h.C.Ideleg, e.Lines)
	}
}

// where says of one interrupt where its bit is set.
type where struct{ ip, line, ie, ideleg bool }

func lay(h api.Hart, e api.Env, n int, w where) (api.Hart, api.Env) {
	one := func(is bool) uint64 {
		if is {
			return 1 << n
		}
		return 0
	}
	h.C.Ip |= one(w.ip)
	h.C.Ie |= one(w.ie)
	h.C.Ideleg |= one(w.ideleg)
	e.Lines |= one(w.line)
	return h, e
}

func wheres() []where {
	var l []where
	for i := range uint64(16) {
		l = append(l, where{bit(i, 0), bit(i, 1), bit(i, 2), bit(i, 3)})
	}
	return l
}

func TestSelectEachAlone(t *testing.T) {
	for n := range 64 {
		for _, w := range wheres() {
			h, e := lay(api.Hart{}, api.Env{}, n, w)
			holdSelect(t, h, e)
		}
	}
}

func TestSelectEachPair(t *testing.T) {
	for i, n := range six {
		for _, other := range six[i+1:] {
			for _, w := range wheres() {
				for _, v := range wheres() {
					h, e := lay(api.Hart{}, api.Env{}, n, w)
					h, e = lay(h, e, other, v)
					holdSelect(t, h, e)
				}
			}
		}
	}
}

// subset is the word with those of the six that which names.
func subset(which int) uint64 {
	w := uint64(0)
	for i, n := range six {
		if which>>i%2 == 1 {
			w += 1 << n
		}
	}
	return w
}

// Any number of them at once, with and without bits that are none of the six.
func TestSelectAmongMany(t *testing.T) {
	for pending := range 64 {
		for deleg := range 64 {
			for _, others := range []uint64{0, noneOfTheSix} {
				h := api.Hart{C: api.Csrs{Ideleg: subset(deleg) | others}}
				h.C.Ip, h.C.Ie = subset(pending), all
				holdSelect(t, h, api.Env{})
				h.C.Ip, h.C.Ie = all, subset(pending)
				holdSelect(t, h, api.Env{Lines: others})
				h.C.Ip, h.C.Ie = others, 0xaaa
				holdSelect(t, h, api.Env{Lines: subset(pending)})
			}
		}
	}
}

func TestSelectKnowsSixAlone(t *testing.T) {
	for _, priv := range privs {
		for _, ideleg := range []uint64{0, all} {
			h := api.Hart{Priv: priv, C: api.Csrs{Status: api.StSIE | api.StMIE, Ideleg: ideleg, Ip: noneOfTheSix, Ie: all}}
			if got, is := Select(h, api.Env{Lines: noneOfTheSix}); got != 0 || is {
				t.Errorf("P8.3: with all but the six pending: %#x, %v", got, is)
			}
		}
	}
}

// Fields that have no part in it change nothing.
func TestSelectOfFullHarts(t *testing.T) {
	env := api.Env{Cycle: 9, Time: all, Lines: 0x880, Hpm: [4]uint64{1, 2, 3, 4}, Int: true, Dev: 5, DevErr: true}
	for _, h := range append(harts(api.User), harts(2)...) {
		for _, e := range []api.Env{{}, env, {Lines: all}} {
			holdSelect(t, h, e)
			for _, status := range statuses() {
				for _, h.Priv = range privs {
					h.C.Status = status
					holdChoice(t, h, e)
				}
			}
		}
	}
}

func TestSelectAtNoPrivilege(t *testing.T) {
	for _, priv := range noPrivs() {
		for _, status := range []uint64{0, api.StSIE, api.StMIE, all} {
			for _, ideleg := range []uint64{0, 0x222, all} {
				holdChoice(t, api.Hart{Priv: priv, C: api.Csrs{Status: status, Ideleg: ideleg, Ie: 0xaaa, Ip: 0x222}}, api.Env{Lines: 0x80})
			}
		}
	}
}

func TestSelectByHand(t *testing.T) {
	const both = api.StSIE | api.StMIE
	rows := []struct {
		priv                          int
		status, ie, ip, ideleg, lines uint64
		want                          uint64
	}{
		{api.User, 0, 0xaaa, 0, 0, 0, 0},
		{api.User, 0, 0, 0x222, 0, 0xaaa, 0},
		{api.User, 0, 0xaaa, 0x222, 0, 0x888, 11},
		{api.User, 0, 0x2aa, 0x222, 0, 0x888, 3},
		{api.User, 0, 0x2a2, 0x222, 0, 0x888, 7},
		{api.User, 0, 0x222, 0x222, 0, 0x888, 9},
		{api.User, 0, 0x022, 0x222, 0, 0x888, 1},
		{api.User, 0, 0x020, 0x222, 0, 0x888, 5},
		{api.User, 0, 0xaaa, 0, 0, 0x222, 9},                // a line sets bit 9 ..
		{api.User, 0, 0xaaa, 0, 0, 0x22, 0},                 // .. but neither bit 1 nor bit 5
		{api.User, 0, 0xaaa, 0x22, 0x2, 0, 5},               // undelegated ones go ahead, however late their turn
		{api.User, 0, 0xaaa, 0x222, 0x222, 0, 9},            // delegated ones in the same order
		{api.User, 0, 0xaaa, 0x22, 0x222, 0, 1},             //
		{api.User, 0, 0xaaa, 0x20, 0x222, 0, 5},             //
		{api.User, 0, 0xaaa, 0x222, 0x222, 0x80, 7},         //
		{api.Super, 0, 0xaaa, 0x222, 0x222, 0, 0},           // SIE is clear
		{api.Super, api.StMIE, 0xaaa, 0x222, 0x222, 0, 0},   // it is SIE that counts
		{api.Super, api.StSIE, 0xaaa, 0x222, 0x222, 0, 9},   //
		{api.Super, 0, 0xaaa, 0x222, 0x202, 0, 5},           // undelegated: above Super
		{api.Super, 0, 0xaaa, 0, 0x222, 0x800, 11},          //
		{api.Machine, 0, 0xaaa, 0x222, 0, 0x888, 0},         // MIE is clear
		{api.Machine, api.StSIE, 0xaaa, 0x222, 0, 0x888, 0}, // it is MIE that counts
		{api.Machine, api.StMIE, 0xaaa, 0x222, 0, 0x888, 11},
		{api.Machine, both, 0xaaa, 0x222, 0x222, 0, 0}, // delegated: below Machine
		{api.Machine, both, 0xaaa, 0x222, 0x222, 8, 3},
		{api.Machine, both, 0xaaa, 0x222, 0x202, 0, 5},
		{2, 0, 0xaaa, 0x222, 0x202, 0, 5}, // no privilege: not Machine, neither User nor Super
		{2, both, 0xaaa, 0x222, 0x222, 0, 0},
		{-1, 0, 0xaaa, 0, 0, 0x80, 7},
	}
	for i, r := range rows {
		h := api.Hart{Priv: r.priv, C: api.Csrs{Status: r.status, Ie: r.ie, Ip: r.ip, Ideleg: r.ideleg}}
		want, is := r.want, r.want != 0
		if is {
			want |= 1 << 63
		}
		if got, some := Select(h, api.Env{Lines: r.lines}); got != want || some != is {
			t.Errorf("P8.3: the row %d: %#x, %v, want %#x, %v", i, got, some, want, is)
		}
	}
}

func TestWakesByHand(t *testing.T) {
	rows := []struct {
		ie, ip, lines uint64
		want          bool
	}{
		{0, 0, 0, false},
		{0xaaa, 0, 0, false},
		{0, 0x222, 0x888, false},
		{0xaaa, 0x2, 0, true},
		{0x2, 0x222, 0, true},
		{0x20, 0x202, 0xaaa, false},
		{0x200, 0, 0x200, true},
		{0x222, 0, 0x22, false},
		{0x8, 0, 0x8, true},
		{0x80, 0, 0x80, true},
		{0x800, 0, 0x800, true},
		{0x80, 0x222, 0x808, false},
	}
	for i, r := range rows {
		for _, priv := range append(noPrivs(), privs[:]...) {
			for _, status := range []uint64{0, api.StSIE | api.StMIE} {
				for _, ideleg := range []uint64{0, 0x222, all} {
					h := api.Hart{Priv: priv, C: api.Csrs{Status: status, Ie: r.ie, Ip: r.ip, Ideleg: ideleg}}
					if got := Wakes(h, api.Env{Lines: r.lines}); got != r.want {
						t.Fatalf("P8.3: Wakes in the row %d at the privilege %d: %v", i, priv, got)
					}
				}
			}
		}
	}
}

// A hart that waits goes on although nothing is taken.
func TestWakesWhereNothingIsTaken(t *testing.T) {
	h := api.Hart{Priv: api.Machine, C: api.Csrs{Ie: 0xaaa, Ip: 2}}
	if _, is := Select(h, api.Env{}); is || !Wakes(h, api.Env{}) {
		t.Error("P8.3: in Machine with MIE clear")
	}
	h = api.Hart{Priv: api.Super, C: api.Csrs{Ie: 0x20, Ip: 0x20, Ideleg: 0x20, Status: api.StMIE}}
	if _, is := Select(h, api.Env{}); is || !Wakes(h, api.Env{}) {
		t.Error("P8.3: in Super with SIE clear")
	}
}
