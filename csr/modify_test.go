package csr

import (
	"testing"

	"tappet/api"
)

func wantModify(t *testing.T, c api.Csrs, n, priv, fun int, x uint64, write bool, e api.Env, old uint64, want api.Csrs) {
	t.Helper()
	if got, d, no := Modify(c, n, priv, fun, x, write, e); got != old || d != want || no != api.OK {
		t.Fatalf("P7.2: Modify(%+v, %#x, %d, %d, %#x, %t, %+v) = %#x, %+v, %d, want %#x, %+v", c, n, priv, fun, x, write, e, got, d, no, old, want)
	}
}

func wantNoModify(t *testing.T, c api.Csrs, n, priv, fun int, x uint64, write bool, e api.Env) {
	t.Helper()
	if got, d, no := Modify(c, n, priv, fun, x, write, e); got != 0 || d != (api.Csrs{}) || no != api.ErrForm {
		t.Fatalf("P7.2: Modify(%+v, %#x, %d, %d, %#x, %t, %+v) = %#x, %+v, %d, want zeros, ErrForm", c, n, priv, fun, x, write, e, got, d, no)
	}
}

// combined is what the chapter says is written.
func combined(c api.Csrs, n, fun int, old, x uint64) uint64 {
	if n == 0x344 {
		old = mix(old, c.Ip, set(9))
	}
	switch fun {
	case 2:
		return mix(old, all, x)
	case 3:
		return mix(old, 0, x)
	}
	return x
}

func TestModifyOfEachRow(t *testing.T) {
	for _, r := range rows() {
		for _, c := range states() {
			for _, e := range envs() {
				for _, x := range words() {
					modifyRow(t, r, c, x, e)
				}
			}
		}
	}
}

func modifyRow(t *testing.T, r row, c api.Csrs, x uint64, e api.Env) {
	t.Helper()
	for _, priv := range privs {
		if !readable(c, r, priv) {
			continue
		}
		old := r.read(c, e)
		for fun := 1; fun <= 3; fun++ {
			wantModify(t, c, r.n, priv, fun, x, false, e, old, c)
			if !r.writable {
				wantNoModify(t, c, r.n, priv, fun, x, true, e)
				continue
			}
			want := c
			r.write(&want, combined(c, r.n, fun, old, x), e)
			wantModify(t, c, r.n, priv, fun, x, true, e, old, want)
		}
	}
}

func TestModifyByHand(t *testing.T) {
	c := api.Csrs{Scratch: 0b0110, Status: api.StMIE | api.StMPP, Instret: 10, Cycle: 100, At: 50}
	with := func(change func(d *api.Csrs)) api.Csrs {
		d := c
		change(&d)
		return d
	}
	e := api.Env{Cycle: 60}
	wantModify(t, c, api.CsrMscratch, api.Machine, 1, 0b1010, true, e, 0b0110, with(func(d *api.Csrs) { d.Scratch = 0b1010 }))
	wantModify(t, c, api.CsrMscratch, api.Machine, 2, 0b1010, true, e, 0b0110, with(func(d *api.Csrs) { d.Scratch = 0b1110 }))
	wantModify(t, c, api.CsrMscratch, api.Machine, 3, 0b1010, true, e, 0b0110, with(func(d *api.Csrs) { d.Scratch = 0b0100 }))
	wantModify(t, c, api.CsrMscratch, api.Machine, 1, 0b1010, false, e, 0b0110, c)
	wantModify(t, c, api.CsrMscratch, api.Machine, 1, 0, true, e, 0b0110, with(func(d *api.Csrs) { d.Scratch = 0 }))
	wantModify(t, c, api.CsrMscratch, api.Machine, 3, 0, true, e, 0b0110, c)
	// 3 with the highest bit cleared would be 1, with the lowest one 2: MPP stays at 3 then.
	wantModify(t, c, api.CsrMstatus, api.Machine, 3, 1<<12, true, e, 0xa00001808, with(func(d *api.Csrs) { d.Status = api.StMIE | 1<<11 }))
	wantModify(t, c, api.CsrMstatus, api.Machine, 3, 1<<11, true, e, 0xa00001808, c)
	wantModify(t, c, api.CsrMstatus, api.Machine, 3, 1<<11|api.StMIE, true, e, 0xa00001808, with(func(d *api.Csrs) { d.Status = api.StMPP }))
	wantModify(t, c, api.CsrMinstret, api.Machine, 2, 5, true, e, 10, with(func(d *api.Csrs) { d.Instret = 15 }))
	wantModify(t, c, api.CsrMcycle, api.Machine, 2, 1, true, e, 110, with(func(d *api.Csrs) { d.Cycle, d.At = 111, 60 }))
	wantModify(t, c, api.CsrMcycle, api.Machine, 3, 2, true, e, 110, with(func(d *api.Csrs) { d.Cycle, d.At = 108, 60 }))
	wantModify(t, c, api.CsrMcycle, api.Machine, 3, 2, false, e, 110, c)
}

// Bit 9 of what is combined is that of Ip alone; what is returned has the line in it.
func TestModifyOfMip(t *testing.T) {
	const se = 1 << api.IntSE
	for _, r := range []struct {
		ip, lines uint64
		fun       int
		x         uint64
		old, want uint64
	}{
		{0x20, se, 1, 2, 0x220, 2},
		{0x20, se, 2, 2, 0x220, 0x22},
		{0x20, se, 3, 2, 0x220, 0x20},
		{0x20, se, 1, se, 0x220, se},
		{0x20, se, 2, se, 0x220, 0x220},
		{0x20, se, 3, se, 0x220, 0x20},
		{0x20, se, 2, 0, 0x220, 0x20},
		{0x20, se, 3, 0, 0x220, 0x20},
		{se, 0, 1, 2, se, 2},
		{se, 0, 2, 2, se, 0x202},
		{se, 0, 3, 2, se, se},
		{se, 0, 3, se, se, 0},
		{se, 0, 2, se, se, se},
		{se, se, 2, 2, se, 0x202},
		{se, se, 3, 2, se, se},
		{se, se, 3, se, se, 0},
		{0x22, all, 2, 0, 0xaaa, 0x22},
		{0x22, all, 3, 2, 0xaaa, 0x20},
		{0x22, all, 2, all, 0xaaa, 0x222},
		{0, 0x888, 2, 0, 0x888, 0},
	} {
		c := full()
		c.Ip = r.ip
		d := c
		d.Ip = r.want
		e := api.Env{Lines: r.lines}
		wantModify(t, c, api.CsrMip, api.Machine, r.fun, r.x, true, e, r.old, d)
		wantModify(t, c, api.CsrMip, api.Machine, r.fun, r.x, false, e, r.old, c)
	}
}

// Of sip, the line of the external interrupt is read and not stored, whatever is set or cleared.
func TestModifyOfSip(t *testing.T) {
	for fun := 1; fun <= 3; fun++ {
		for _, ip := range []uint64{0, 2, 0x200, 0x222} {
			for _, x := range []uint64{0, 2, 0x200, all} {
				c := api.Csrs{Ideleg: 0x222, Ip: ip}
				d := c
				d.Ip = ip&^2 | combined(c, api.CsrSip, fun, ip, x)&2
				wantModify(t, c, api.CsrSip, api.Super, fun, x, true, api.Env{Lines: 0x200}, ip|0x200, d)
			}
		}
	}
}

func TestModifyOfWhatIsNotWritable(t *testing.T) {
	for _, r := range rows() {
		if r.writable {
			continue
		}
		for fun := 1; fun <= 3; fun++ {
			for _, x := range []uint64{0, 1, all} {
				wantModify(t, full(), r.n, api.Machine, fun, x, false, envs()[1], r.read(full(), envs()[1]), full())
				wantNoModify(t, full(), r.n, api.Machine, fun, x, true, envs()[1])
			}
		}
	}
}

func TestModifyOfOtherFuns(t *testing.T) {
	for _, r := range rows() {
		for _, fun := range noFuns() {
			for _, write := range []bool{false, true} {
				wantNoModify(t, full(), r.n, api.Machine, fun, 5, write, envs()[1])
			}
		}
	}
}
