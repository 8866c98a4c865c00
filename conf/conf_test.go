package conf_test

import (
	"fmt"
	"math"
	"math/rand/v2"
	"slices"
	"testing"

	"dyeworks/api"
	"dyeworks/conf"
)

// base: what is wanted in most rows: two tenants with the same Macs, Ips and Gates, and a switch without a Gate.
func base() api.Conf {
	return api.Conf{
		Switches: []api.Switch{{Id: 1, Tenant: 1, Gate: 100}, {Id: 2, Tenant: 1}, {Id: 3, Tenant: 2, Gate: 100}, {Id: 4, Tenant: 2, Gate: 200}},
		Ports: []api.Port{
			{Id: 1, Switch: 1, Mac: 11, Ip: 51, Chassis: 0},
			{Id: 2, Switch: 2, Mac: 12, Ip: 52, Chassis: 3},
			{Id: 3, Switch: 3, Mac: 11, Ip: 51, Chassis: -1},
			{Id: 4, Switch: 1, Mac: 14, Ip: 54, Chassis: 5},
		},
		Acls: []api.Acl{{Switch: 1, Prio: 5, Port: -1}, {Switch: 3, Prio: 5, In: true, Port: 80, Deny: true}, {Switch: 1, Prio: 4, Port: 7}},
	}
}

// same: is the same wanted? A list without elements may be nil or not.
func same(a, b api.Conf) bool {
	return slices.Equal(a.Switches, b.Switches) && slices.Equal(a.Ports, b.Ports) && slices.Equal(a.Acls, b.Acls)
}

// manySwitches: so many, without Gates.
func manySwitches(n int) api.Conf {
	var c api.Conf
	for i := range n {
		c.Switches = append(c.Switches, api.Switch{Id: 101 + i, Tenant: 1 + i%9})
	}
	return c
}

// manyPorts: so many, of one switch.
func manyPorts(n int) api.Conf {
	c := manySwitches(1)
	for i := range n {
		c.Ports = append(c.Ports, api.Port{Id: 201 + i, Switch: 101, Mac: 301 + i, Ip: 401 + i})
	}
	return c
}

// manyAcls: so many, all the same.
func manyAcls(n int) api.Conf {
	c := manySwitches(1)
	c.Acls = slices.Repeat([]api.Acl{{Switch: 101}}, n)
	return c
}

// with: what is wanted, and more of it behind.
func with(c api.Conf, a api.Act) api.Conf {
	switch a.Kind {
	case api.AddSwitch:
		c.Switches = append(slices.Clone(c.Switches), a.Switch)
	case api.AddPort:
		c.Ports = append(slices.Clone(c.Ports), a.Port)
	case api.AddAcl:
		c.Acls = append(slices.Clone(c.Acls), a.Acl)
	}
	return c
}

func newSwitch(id, tenant, gate int) api.Act {
	return api.Act{Kind: api.AddSwitch, Switch: api.Switch{Id: id, Tenant: tenant, Gate: gate}}
}

func newPort(id, of, mac, ip, chassis int) api.Act {
	return api.Act{Kind: api.AddPort, Port: api.Port{Id: id, Switch: of, Mac: mac, Ip: ip, Chassis: chassis}}
}

func newAcl(r api.Acl) api.Act {
	return api.Act{Kind: api.AddAcl, Acl: r}
}

type row struct {
	c api.Conf
	a api.Act
	e api.Errno
}

// comes: does what the rows bring come behind all, or is it refused so, in Apply and in Check?
func comes(t *testing.T, rows []row) {
	t.Helper()
	for i, x := range rows {
		want, check := with(x.c, x.a), api.OK
		if x.e != api.OK {
			want, check = api.Conf{}, api.ErrState
		}
		if got, e := conf.Apply(x.c, x.a); !same(got, want) || e != x.e {
			t.Errorf("row %d: %+v: %v %v, want %v %v", i, x.a, got, e, want, x.e)
		}
		if e := conf.Check(with(x.c, x.a)); e != check {
			t.Errorf("row %d: Check with %+v: %v, want %v", i, x.a, e, check)
		}
	}
}

// outside: numbers that are not within two bounds.
func outside(least, most int) []int {
	return []int{math.MinInt, least - 65536, least - 1, most + 1, most + 2, most + 65536, 1 << 32, math.MaxInt}
}

// P3.1: switches that may come, at all edges.
func TestSwitchComes(t *testing.T) {
	comes(t, []row{
		{api.Conf{}, newSwitch(1, 1, 0), api.OK},
		{api.Conf{}, newSwitch(500, 9, 65535), api.OK},
		{api.Conf{}, newSwitch(7, 2, 1), api.OK},
		{base(), newSwitch(5, 1, 101), api.OK},
		{base(), newSwitch(5, 1, 0), api.OK}, // a Gate that is 0 is none
		{base(), newSwitch(5, 1, 200), api.OK},
		{base(), newSwitch(5, 3, 100), api.OK},
		{base(), newSwitch(5, 2, 52), api.OK},
		{base(), newSwitch(5, 2, 54), api.OK},
		{base(), newSwitch(5, 3, 51), api.OK},
		{manySwitches(11), newSwitch(500, 1, 1), api.OK},
	})
}

// P3.1: switches that may not come, with the error that is named first.
func TestSwitchRefused(t *testing.T) {
	comes(t, []row{
		{base(), newSwitch(1, 3, 0), api.ErrTwice},
		{base(), newSwitch(4, 1, 7), api.ErrTwice},
		{base(), newSwitch(5, 1, 100), api.ErrTwice},
		{base(), newSwitch(5, 2, 100), api.ErrTwice},
		{base(), newSwitch(5, 2, 200), api.ErrTwice},
		{base(), newSwitch(2, 9, 65536), api.ErrRange},
		{base(), newSwitch(1, 10, 100), api.ErrRange},
		{manySwitches(12), newSwitch(1, 1, 0), api.ErrSize},
		{manySwitches(12), newSwitch(500, 9, 5), api.ErrSize},
		{manySwitches(12), newSwitch(112, 9, 5), api.ErrTwice},
		{manySwitches(12), newSwitch(0, 9, 5), api.ErrRange},
	})
	for _, n := range outside(1, 500) {
		comes(t, []row{{base(), newSwitch(n, 1, 7), api.ErrRange}})
	}
	for _, n := range outside(1, 9) {
		comes(t, []row{{base(), newSwitch(7, n, 7), api.ErrRange}})
	}
	for _, n := range outside(0, 65535) {
		comes(t, []row{{base(), newSwitch(7, 1, n), api.ErrRange}})
	}
}

// P3.1: a Gate that is the Ip of a port of the same tenant. In Check it is the port that may not come behind it.
func TestGateIsIp(t *testing.T) {
	for _, a := range []api.Act{newSwitch(5, 1, 51), newSwitch(5, 1, 52), newSwitch(5, 1, 54), newSwitch(5, 2, 51)} {
		comes(t, []row{{base(), a, api.ErrTwice}})
		c := base()
		c.Switches = slices.Insert(c.Switches, 0, a.Switch)
		if e := conf.Check(c); e != api.ErrState {
			t.Errorf("Check with %v in front: %v", a.Switch, e)
		}
	}
	// The port is elsewhere, or has another Ip: then it may.
	for _, p := range []api.Port{{Id: 1, Switch: 4, Mac: 11, Ip: 61}, {Id: 9, Switch: 1, Mac: 51, Ip: 60}} {
		c := base()
		c.Ports[0] = p
		comes(t, []row{{c, newSwitch(5, 1, 51), api.OK}})
	}
}

// P3.2: ports that may come, at all edges.
func TestPortComes(t *testing.T) {
	comes(t, []row{
		{manySwitches(1), newPort(1, 101, 1, 1, -1), api.OK},
		{manySwitches(1), newPort(999, 101, 59999, 65535, 5), api.OK},
		{manySwitches(12), newPort(5, 112, 5, 5, 0), api.OK},
		{base(), newPort(5, 1, 15, 55, 0), api.OK},
		{base(), newPort(5, 2, 11, 55, 0), api.OK}, // the Mac of another switch
		{base(), newPort(5, 4, 11, 55, 0), api.OK},
		{base(), newPort(5, 3, 15, 52, 0), api.OK}, // the Ip of another tenant
		{base(), newPort(5, 4, 15, 54, 0), api.OK},
		{base(), newPort(5, 1, 15, 200, 0), api.OK}, // the Gate of another tenant
		{base(), newPort(5, 1, 51, 15, 0), api.OK},
		{base(), newPort(100, 1, 100, 1, 0), api.OK},
		{manyPorts(39), newPort(1, 101, 1, 1, 1), api.OK},
	})
}

// P3.2: ports that may not come, with the error that is named first.
func TestPortRefused(t *testing.T) {
	comes(t, []row{
		{api.Conf{}, newPort(1, 1, 1, 1, 0), api.ErrNone},
		{api.Conf{}, newPort(1, 0, 1, 1, 0), api.ErrNone},
		{base(), newPort(5, 5, 15, 55, 0), api.ErrNone},
		{base(), newPort(5, math.MinInt, 15, 55, 0), api.ErrNone},
		{base(), newPort(5, math.MaxInt, 15, 55, 0), api.ErrNone},
		{base(), newPort(1, 5, 11, 51, 0), api.ErrNone}, // ahead of ErrTwice
		{base(), newPort(1, 4, 15, 55, 0), api.ErrTwice},
		{base(), newPort(4, 2, 15, 55, 0), api.ErrTwice},
		{base(), newPort(5, 1, 11, 55, 0), api.ErrTwice},
		{base(), newPort(5, 1, 14, 55, 0), api.ErrTwice},
		{base(), newPort(5, 2, 12, 55, 0), api.ErrTwice},
		{base(), newPort(5, 1, 15, 51, 0), api.ErrTwice},
		{base(), newPort(5, 2, 15, 51, 0), api.ErrTwice}, // a port of another switch of the tenant
		{base(), newPort(5, 1, 15, 52, 0), api.ErrTwice},
		{base(), newPort(5, 4, 15, 51, 0), api.ErrTwice},
		{base(), newPort(5, 1, 15, 100, 0), api.ErrTwice},
		{base(), newPort(5, 2, 15, 100, 0), api.ErrTwice}, // the Gate of another switch of the tenant
		{base(), newPort(5, 3, 15, 200, 0), api.ErrTwice},
		{base(), newPort(1, 5, 11, 0, 0), api.ErrRange}, // ahead of ErrNone
		{base(), newPort(1, 1, 11, 51, 6), api.ErrRange},
		{manyPorts(40), newPort(1, 101, 1, 1, 1), api.ErrSize},
		{manyPorts(40), newPort(240, 101, 1, 1, 1), api.ErrTwice},
		{manyPorts(40), newPort(1, 101, 340, 1, 1), api.ErrTwice},
		{manyPorts(40), newPort(1, 101, 1, 440, 1), api.ErrTwice},
		{manyPorts(40), newPort(1, 102, 1, 1, 1), api.ErrNone},
		{manyPorts(40), newPort(0, 101, 1, 1, 1), api.ErrRange},
	})
	for _, n := range outside(1, 999) {
		comes(t, []row{{base(), newPort(n, 1, 15, 55, 0), api.ErrRange}})
	}
	for _, n := range append(outside(1, 59999), 60001, 65535) {
		comes(t, []row{{base(), newPort(5, 1, n, 55, 0), api.ErrRange}})
	}
	for _, n := range outside(1, 65535) {
		comes(t, []row{{base(), newPort(5, 1, 15, n, 0), api.ErrRange}})
	}
	for _, n := range outside(-1, 5) {
		comes(t, []row{{base(), newPort(5, 1, 15, 55, n), api.ErrRange}})
	}
}

// P3.3: rules that may come, at all edges; the same one twice, too.
func TestAclComes(t *testing.T) {
	comes(t, []row{
		{manySwitches(1), newAcl(api.Acl{Switch: 101}), api.OK},
		{manySwitches(12), newAcl(api.Acl{Switch: 112, Port: -1}), api.OK},
		{base(), newAcl(api.Acl{Switch: 4, Prio: 1000, In: true, Src: 65535, SrcBits: 16, Dst: 65535, DstBits: 16, Port: 65535, Deny: true}), api.OK},
		{base(), newAcl(base().Acls[0]), api.OK},
		{base(), newAcl(api.Acl{Switch: 2, SrcBits: 16, DstBits: 16}), api.OK},
		{manyAcls(39), newAcl(api.Acl{Switch: 101}), api.OK},
	})
}

// P3.3: rules that may not come, with the error that is named first.
func TestAclRefused(t *testing.T) {
	comes(t, []row{
		{api.Conf{}, newAcl(api.Acl{}), api.ErrNone},
		{base(), newAcl(api.Acl{Switch: 5}), api.ErrNone},
		{base(), newAcl(api.Acl{Switch: -1}), api.ErrNone},
		{base(), newAcl(api.Acl{Switch: math.MinInt}), api.ErrNone},
		{base(), newAcl(api.Acl{Switch: math.MaxInt}), api.ErrNone},
		{base(), newAcl(api.Acl{Switch: 5, Src: 1}), api.ErrForm}, // ahead of ErrNone
		{base(), newAcl(api.Acl{Switch: 5, Dst: 1}), api.ErrForm},
		{base(), newAcl(api.Acl{Switch: 5, Src: 1, Port: -2}), api.ErrRange}, // ahead of ErrForm
		{base(), newAcl(api.Acl{Switch: 1, Src: 1, DstBits: 17}), api.ErrRange},
		{base(), newAcl(api.Acl{Switch: 1, Src: 1, Dst: 65536}), api.ErrRange},
		{manyAcls(40), newAcl(api.Acl{Switch: 101}), api.ErrSize},
		{manyAcls(40), newAcl(api.Acl{Switch: 102}), api.ErrNone},
		{manyAcls(40), newAcl(api.Acl{Switch: 101, Dst: 1}), api.ErrForm},
		{manyAcls(40), newAcl(api.Acl{Switch: 101, Prio: -1}), api.ErrRange},
	})
	for _, n := range outside(0, 1000) {
		comes(t, []row{{base(), newAcl(api.Acl{Switch: 1, Prio: n}), api.ErrRange}})
	}
	for _, n := range outside(0, 65535) {
		comes(t, []row{{base(), newAcl(api.Acl{Switch: 1, Src: n, SrcBits: 16}), api.ErrRange},
			{base(), newAcl(api.Acl{Switch: 1, Dst: n, DstBits: 16}), api.ErrRange}})
	}
	for _, n := range append(outside(0, 16), 63, 64, 65) {
		comes(t, []row{{base(), newAcl(api.Acl{Switch: 1, SrcBits: n}), api.ErrRange},
			{base(), newAcl(api.Acl{Switch: 1, DstBits: n}), api.ErrRange}})
	}
	for _, n := range outside(-1, 65535) {
		comes(t, []row{{base(), newAcl(api.Acl{Switch: 1, Port: n}), api.ErrRange}})
	}
}

// P3.3: the bits of Src, and of Dst, are among so many of the highest ones, each by its own number of them.
func TestAclBits(t *testing.T) {
	for bits := range 17 {
		for bit := range 16 {
			want := api.OK
			if bit < 16-bits {
				want = api.ErrForm
			}
			comes(t, []row{
				{base(), newAcl(api.Acl{Switch: 1, Src: 1 << bit, SrcBits: bits}), want},
				{base(), newAcl(api.Acl{Switch: 1, Dst: 1 << bit, DstBits: bits}), want},
				{base(), newAcl(api.Acl{Switch: 1, Src: 1 << bit, SrcBits: bits, DstBits: 16}), want},
				{base(), newAcl(api.Acl{Switch: 1, Dst: 1 << bit, DstBits: bits, SrcBits: 16}), want},
			})
		}
		highest := 65536 - 1<<(16-bits)
		comes(t, []row{{base(), newAcl(api.Acl{Switch: 1, Src: highest, SrcBits: bits, Dst: highest, DstBits: bits}), api.OK}})
	}
}

// P3.4: what may be wanted, and what may not, wherever the fault stands.
func TestCheck(t *testing.T) {
	all := manyPorts(40)
	all.Switches, all.Acls = manySwitches(12).Switches, manyAcls(40).Acls
	for i, c := range []api.Conf{{}, {Switches: []api.Switch{}, Ports: []api.Port{}, Acls: []api.Acl{}}, base(), all} {
		if e := conf.Check(c); e != api.OK {
			t.Errorf("row %d: %v", i, e)
		}
	}
	for i, spoil := range []func(c *api.Conf){
		func(c *api.Conf) { c.Switches = c.Switches[1:] }, // ports and rules without a switch
		func(c *api.Conf) { c.Switches = nil },
		func(c *api.Conf) { c.Switches, c.Ports = nil, nil },
		func(c *api.Conf) { c.Switches, c.Acls = nil, nil },
		func(c *api.Conf) { c.Switches[0] = api.Switch{} },
		func(c *api.Conf) { c.Switches[0].Gate = 65536 },
		func(c *api.Conf) { c.Switches[3].Gate = 100 },
		func(c *api.Conf) { c.Switches[1].Gate = 54 }, // the Ip of a port that comes last
		func(c *api.Conf) { c.Switches[2].Tenant, c.Switches[2].Gate = 1, 0 },
		func(c *api.Conf) { c.Switches[1].Id = 3 },
		func(c *api.Conf) { c.Ports[0].Id = 4 },
		func(c *api.Conf) { c.Ports[0].Ip = 54 },
		func(c *api.Conf) { c.Ports[0].Chassis = 6 },
		func(c *api.Conf) { c.Ports[0] = api.Port{} },
		func(c *api.Conf) { c.Acls[0].Prio = 1001 },
		func(c *api.Conf) { c.Acls[0].Src = 1 },
		func(c *api.Conf) { c.Acls[0] = api.Acl{} },
		func(c *api.Conf) { c.Switches = make([]api.Switch, 100000) },
		func(c *api.Conf) { c.Ports = make([]api.Port, 100000) },
		func(c *api.Conf) { c.Acls = slices.Repeat(c.Acls, 100000) },
	} {
		c := base()
		spoil(&c)
		if e := conf.Check(c); e != api.ErrState {
			t.Errorf("spoiled row %d: %v", i, e)
		}
		// P3.5: ahead of all that may be wrong with an act.
		for kind := -1; kind < 10; kind++ {
			if got, e := conf.Apply(c, api.Act{Kind: kind, N: 1}); !same(got, api.Conf{}) || e != api.ErrState {
				t.Errorf("spoiled row %d, Apply of the kind %d: %v %v", i, kind, got, e)
			}
		}
	}
}

// P3.4: Copy is the same, of what may not be wanted, too.
func TestCopy(t *testing.T) {
	wild := api.Conf{
		Switches: []api.Switch{{}, {}, {Id: math.MinInt, Tenant: math.MaxInt, Gate: -1}},
		Ports:    []api.Port{{Id: -1, Switch: 2, Mac: 3, Ip: 4, Chassis: 5}, {}},
		Acls:     []api.Acl{{Switch: 1, Prio: 2, In: true, Src: 3, SrcBits: 4, Dst: 5, DstBits: 6, Port: 7, Deny: true}},
	}
	long := api.Conf{Switches: make([]api.Switch, 1000), Ports: make([]api.Port, 1000), Acls: make([]api.Acl, 1000)}
	for i, c := range []api.Conf{{}, base(), wild, long, {Ports: base().Ports}, {Acls: base().Acls}} {
		if got := conf.Copy(c); !same(got, c) {
			t.Errorf("row %d: %v, want %v", i, got, c)
		}
	}
}

// P3.5: a port goes, by its Id; all else stays in its order.
func TestDropPort(t *testing.T) {
	for at, p := range base().Ports {
		want := base()
		want.Ports = slices.Delete(want.Ports, at, at+1)
		for _, m := range []int{0, 6, math.MinInt} { // M is of Bind alone
			if got, e := conf.Apply(base(), api.Act{Kind: api.DropPort, N: p.Id, M: m}); !same(got, want) || e != api.OK {
				t.Errorf("DropPort %d: %v %v, want %v", p.Id, got, e, want)
			}
		}
	}
	for _, n := range []int{math.MinInt, -1, 0, 5, 999, math.MaxInt} {
		for _, c := range []api.Conf{{}, base()} {
			if got, e := conf.Apply(c, api.Act{Kind: api.DropPort, N: n}); !same(got, api.Conf{}) || e != api.ErrNone {
				t.Errorf("DropPort %d: %v %v", n, got, e)
			}
		}
	}
	// By its Id, not its place.
	c := manyPorts(3)
	if got, e := conf.Apply(c, api.Act{Kind: api.DropPort, N: 202}); e != api.OK || got.Ports[0] != c.Ports[0] || got.Ports[1] != c.Ports[2] {
		t.Errorf("DropPort 202: %v %v", got, e)
	}
}

// P3.5: a port gets another Chassis, or the same, or none.
func TestBind(t *testing.T) {
	for at, p := range base().Ports {
		for m := -1; m < api.MaxChassis; m++ {
			want := base()
			want.Ports[at].Chassis = m
			if got, e := conf.Apply(base(), api.Act{Kind: api.Bind, N: p.Id, M: m}); !same(got, want) || e != api.OK {
				t.Errorf("Bind %d to %d: %v %v, want %v", p.Id, m, got, e, want)
			}
		}
		for _, m := range outside(-1, 5) {
			if got, e := conf.Apply(base(), api.Act{Kind: api.Bind, N: p.Id, M: m}); !same(got, api.Conf{}) || e != api.ErrRange {
				t.Errorf("Bind %d to %d: %v %v", p.Id, m, got, e)
			}
		}
	}
	for _, n := range []int{math.MinInt, -1, 0, 5, 999, math.MaxInt} {
		for _, m := range []int{0, 6, math.MinInt} { // ErrNone is named first
			if got, e := conf.Apply(base(), api.Act{Kind: api.Bind, N: n, M: m}); !same(got, api.Conf{}) || e != api.ErrNone {
				t.Errorf("Bind %d to %d: %v %v", n, m, got, e)
			}
		}
	}
}

// P3.5: a rule goes, by its place, counted from 0 on.
func TestDropAcl(t *testing.T) {
	for at := range base().Acls {
		want := base()
		want.Acls = slices.Delete(want.Acls, at, at+1)
		if got, e := conf.Apply(base(), api.Act{Kind: api.DropAcl, N: at, M: 9}); !same(got, want) || e != api.OK {
			t.Errorf("DropAcl %d: %v %v, want %v", at, got, e, want)
		}
	}
	for _, n := range []int{math.MinInt, -1, 3, 4, 40, math.MaxInt} {
		if got, e := conf.Apply(base(), api.Act{Kind: api.DropAcl, N: n}); !same(got, api.Conf{}) || e != api.ErrNone {
			t.Errorf("DropAcl %d: %v %v", n, got, e)
		}
	}
	if got, e := conf.Apply(api.Conf{}, api.Act{Kind: api.DropAcl}); !same(got, api.Conf{}) || e != api.ErrNone {
		t.Errorf("DropAcl of nothing: %v %v", got, e)
	}
	if got, e := conf.Apply(manyAcls(1), api.Act{Kind: api.DropAcl}); !same(got, manySwitches(1)) || e != api.OK {
		t.Errorf("DropAcl of the only one: %v %v", got, e)
	}
}

// P3.5: acts that change nothing that is wanted, whatever else they hold.
func TestOtherKinds(t *testing.T) {
	for _, kind := range []int{math.MinInt, -1, 0, api.Sync, api.Send, 9, 256 + api.AddSwitch, math.MaxInt} {
		a := api.Act{Kind: kind, N: 1, M: 1, Switch: newSwitch(5, 1, 0).Switch, Port: newPort(5, 1, 15, 55, 0).Port, Acl: api.Acl{Switch: 1}}
		for _, c := range []api.Conf{{}, base()} {
			if got, e := conf.Apply(c, a); !same(got, api.Conf{}) || e != api.ErrKind {
				t.Errorf("the kind %d: %v %v", kind, got, e)
			}
		}
	}
	// An act looks at its own part alone.
	full := newPort(5, 1, 15, 55, 0)
	full.Switch, full.Acl, full.N, full.M = api.Switch{Id: -1}, api.Acl{Prio: -1}, -1, 99
	comes(t, []row{{base(), full, api.OK}})
}

// edges: numbers among which the bounds are, and those of what is there.
var edges = []int{-1, 0, 1, 2, 3, 4, 5, 6, 9, 10, 16, 17, 500, 501, 999, 1000, 1001, 59999, 60000, 65535, 65536, math.MinInt, math.MaxInt}

// drawnAct: mostly with small numbers, that meet what is there; now and then with one of the edges.
func drawnAct(r *rand.Rand) api.Act {
	n := func(least, many int) int {
		if r.IntN(60) == 0 {
			return edges[r.IntN(len(edges))]
		}
		return least + r.IntN(many)
	}
	return api.Act{
		Kind:   n(1, 6),
		Switch: api.Switch{Id: n(1, 14), Tenant: n(1, 3), Gate: n(0, 30)},
		Port:   api.Port{Id: n(1, 90), Switch: n(1, 14), Mac: n(1, 20), Ip: n(1, 90), Chassis: n(-1, 7)},
		Acl: api.Acl{Switch: n(1, 14), Prio: n(0, 9), In: r.IntN(2) == 0, Src: n(0, 2) << 14, SrcBits: n(1, 15),
			Dst: n(0, 4) << 13, DstBits: n(2, 14), Port: n(-1, 9), Deny: r.IntN(2) == 0},
		N: n(0, 30),
		M: n(-1, 7),
	}
}

// tenants: the tenant of each switch.
func tenants(c api.Conf) map[int]int {
	m := map[int]int{}
	for _, s := range c.Switches {
		m[s.Id] = s.Tenant
	}
	return m
}

// used: all numbers of Gates and Ips, each with its tenant.
func used(c api.Conf) map[[2]int]bool {
	m, of := map[[2]int]bool{}, tenants(c)
	for _, s := range c.Switches {
		m[[2]int{s.Tenant, s.Gate}] = s.Gate != 0
	}
	for _, p := range c.Ports {
		m[[2]int{of[p.Switch], p.Ip}] = true
	}
	return m
}

type says struct {
	applies bool
	e       api.Errno
}

// first: the error that is named first of those that apply.
func first(l ...says) api.Errno {
	for _, x := range l {
		if x.applies {
			return x.e
		}
	}
	return api.OK
}

func low(n, bits int) bool { return n%(1<<(16-bits)) != 0 }

func in(n, least, most int) bool { return least <= n && n <= most }

// refused: what the chapter says of an act, when what is there may be wanted; with maps in place of finding.
func refused(c api.Conf, a api.Act) api.Errno {
	of, ips := tenants(c), used(c)
	ports, macs := map[int]bool{}, map[[2]int]bool{}
	for _, p := range c.Ports {
		ports[p.Id], macs[[2]int{p.Switch, p.Mac}] = true, true
	}
	switch a.Kind {
	case api.AddSwitch:
		s := a.Switch
		return first(
			says{!in(s.Id, 1, 500) || !in(s.Tenant, 1, 9) || !in(s.Gate, 0, 65535), api.ErrRange},
			says{of[s.Id] != 0 || ips[[2]int{s.Tenant, s.Gate}], api.ErrTwice},
			says{len(c.Switches) == 12, api.ErrSize})
	case api.AddPort:
		p := a.Port
		return first(
			says{!in(p.Id, 1, 999) || !in(p.Mac, 1, 59999) || !in(p.Ip, 1, 65535) || !in(p.Chassis, -1, 5), api.ErrRange},
			says{of[p.Switch] == 0, api.ErrNone},
			says{ports[p.Id] || macs[[2]int{p.Switch, p.Mac}], api.ErrTwice},
			says{ips[[2]int{of[p.Switch], p.Ip}], api.ErrTwice},
			says{len(c.Ports) == 40, api.ErrSize})
	case api.AddAcl:
		x := a.Acl
		if !in(x.Prio, 0, 1000) || !in(x.Src, 0, 65535) || !in(x.Dst, 0, 65535) || !in(x.SrcBits, 0, 16) || !in(x.DstBits, 0, 16) || !in(x.Port, -1, 65535) {
			return api.ErrRange
		}
		return first(
			says{low(x.Src, x.SrcBits) || low(x.Dst, x.DstBits), api.ErrForm},
			says{of[x.Switch] == 0, api.ErrNone},
			says{len(c.Acls) == 40, api.ErrSize})
	case api.DropPort:
		return first(says{!ports[a.N], api.ErrNone})
	case api.Bind:
		return first(says{!ports[a.N], api.ErrNone}, says{!in(a.M, -1, 5), api.ErrRange})
	case api.DropAcl:
		return first(says{!in(a.N, 0, len(c.Acls)-1), api.ErrNone})
	}
	return api.ErrKind
}

// behind: what is wanted behind an act that is not refused; lists that go lose what goes by being made anew.
func behind(c api.Conf, a api.Act) api.Conf {
	next := with(c, a)
	if a.Kind == api.DropPort || a.Kind == api.Bind {
		next.Ports = nil
		for _, p := range c.Ports {
			if p.Id == a.N && a.Kind == api.DropPort {
				continue
			}
			if p.Id == a.N {
				p.Chassis = a.M
			}
			next.Ports = append(next.Ports, p)
		}
	}
	if a.Kind == api.DropAcl {
		next.Acls = slices.Concat(c.Acls[:a.N], c.Acls[a.N+1:])
	}
	return next
}

// P3.1 to P3.5: drawn acts, one behind the other; whatever comes of them may be wanted.
func TestDrawn(t *testing.T) {
	r := rand.New(rand.NewPCG(1, 2))
	seen := map[[2]int]int{}
	for range 300 {
		var c api.Conf
		adds := r.IntN(3) == 0 // so that the lists get full
		for range 250 {
			a := drawnAct(r)
			if adds && in(a.Kind, 4, 6) {
				a.Kind -= 3
			}
			e := refused(c, a)
			seen[[2]int{a.Kind, int(e)}]++
			want := api.Conf{}
			if e == api.OK {
				want = behind(c, a)
			}
			got, code := conf.Apply(c, a)
			if !same(got, want) || code != e {
				t.Fatalf("Apply(%v, %+v): %v %v, want %v %v", c, a, got, code, want, e)
			}
			if e == api.OK {
				c = got
			}
			if e := conf.Check(c); e != api.OK {
				t.Fatalf("Check(%v): %v", c, e)
			}
		}
	}
	for _, k := range [][2]int{{1, 0}, {1, 1}, {1, 2}, {1, 7}, {2, 0}, {2, 1}, {2, 2}, {2, 6}, {2, 7}, {3, 0}, {3, 1}, {3, 2}, {3, 4}, {3, 6},
		{4, 0}, {4, 6}, {5, 0}, {5, 6}, {6, 0}, {6, 2}, {6, 6}, {9, 3}} {
		if seen[k] == 0 {
			t.Errorf("no act of the kind %d and with the code %d", k[0], k[1])
		}
	}
}

// What holds everywhere: no numbers make a call panic, and with an error nothing else is told.
func TestWild(t *testing.T) {
	r := rand.New(rand.NewPCG(3, 4))
	n := func() int { return edges[r.IntN(len(edges))] }
	for range 20000 {
		c := base()
		if r.IntN(2) == 0 {
			c = api.Conf{Switches: make([]api.Switch, r.IntN(4)), Ports: make([]api.Port, r.IntN(4)), Acls: make([]api.Acl, r.IntN(4))}
		}
		for i := range c.Switches {
			if r.IntN(4) == 0 {
				c.Switches[i] = api.Switch{Id: n(), Tenant: n(), Gate: n()}
			}
		}
		for i := range c.Ports {
			if r.IntN(4) == 0 {
				c.Ports[i] = api.Port{Id: n(), Switch: n(), Mac: n(), Ip: n(), Chassis: n()}
			}
		}
		for i := range c.Acls {
			if r.IntN(4) == 0 {
				c.Acls[i] = api.Acl{Switch: n(), Prio: n(), Src: n(), SrcBits: n(), Dst: n(), DstBits: n(), Port: n()}
			}
		}
		a := drawnAct(r)
		a.Kind, a.N, a.M = n(), n(), n()
		e := conf.Check(c)
		got, code := conf.Apply(c, a)
		if e != api.OK && (e != api.ErrState || code != e) || code != api.OK && !same(got, api.Conf{}) {
			t.Fatalf("%v, %+v: %v, %v %v", c, a, e, got, code)
		}
	}
}

// acts: one of each kind that may be done to base.
func acts() []api.Act {
	return []api.Act{newSwitch(5, 3, 9), newPort(5, 1, 15, 55, 0), newAcl(api.Acl{Switch: 2}),
		{Kind: api.DropPort, N: 1}, {Kind: api.DropAcl, N: 0}, {Kind: api.Bind, N: 1, M: 4}}
}

// roomy: base with spare room in each list, and the room filled.
func roomy() api.Conf {
	c := base()
	c.Switches = append(c.Switches, slices.Repeat([]api.Switch{{Id: 77, Tenant: 77, Gate: 77}}, 5)...)[:len(c.Switches)]
	c.Ports = append(c.Ports, slices.Repeat([]api.Port{{Id: 77, Switch: 77}}, 5)...)[:len(c.Ports)]
	c.Acls = append(c.Acls, slices.Repeat([]api.Acl{{Switch: 77, Prio: 77}}, 5)...)[:len(c.Acls)]
	return c
}

// whole: a text of what is wanted, with its spare room.
func whole(c api.Conf) string {
	return fmt.Sprint(len(c.Switches), c.Switches[:cap(c.Switches)], len(c.Ports), c.Ports[:cap(c.Ports)], len(c.Acls), c.Acls[:cap(c.Acls)])
}

// overwrite all that is there, and the spare room.
func overwrite(c api.Conf) {
	s, p, r := c.Switches[:cap(c.Switches)], c.Ports[:cap(c.Ports)], c.Acls[:cap(c.Acls)]
	for i := range s {
		s[i] = api.Switch{Id: -9, Tenant: -9, Gate: -9}
	}
	for i := range p {
		p[i] = api.Port{Id: -9, Switch: -9, Mac: -9, Ip: -9, Chassis: -9}
	}
	for i := range r {
		r[i] = api.Acl{Switch: -9, Prio: -9, Port: -9}
	}
}

// makers: the calls that answer lists, of what is handed in.
func makers() []func(c api.Conf) api.Conf {
	l := []func(c api.Conf) api.Conf{conf.Copy}
	for _, a := range acts() {
		l = append(l, func(c api.Conf) api.Conf { got, _ := conf.Apply(c, a); return got })
	}
	return l
}

// What holds everywhere: what is handed in stays, its spare room too, and is not kept.
func TestHandedIn(t *testing.T) {
	for i, makes := range makers() {
		c := roomy()
		kept := whole(c)
		got := makes(c)
		conf.Check(c)
		if whole(c) != kept {
			t.Errorf("row %d: %s, want %s", i, whole(c), kept)
		}
		overwrite(c)
		if want := makes(base()); len(got.Switches) == 0 || !same(got, want) {
			t.Errorf("row %d: %v, want %v", i, got, want)
		}
	}
	for kind := -1; kind < 10; kind++ { // refused ones
		c := roomy()
		kept := whole(c)
		if _, e := conf.Apply(c, api.Act{Kind: kind, N: -1}); e == api.OK || whole(c) != kept {
			t.Errorf("the kind %d: %v %s, want %s", kind, e, whole(c), kept)
		}
	}
}

// What holds everywhere: answers share no memory with what was handed in, or with one another, their spare room neither.
func TestAnswersAlone(t *testing.T) {
	for i, makes := range makers() {
		c := roomy()
		kept := whole(c)
		one, other := makes(c), makes(c)
		want := conf.Copy(other)
		overwrite(one)
		if whole(c) != kept || !same(other, want) || !same(makes(c), want) {
			t.Errorf("row %d: %s %v, want %s %v", i, whole(c), other, kept, want)
		}
	}
}
