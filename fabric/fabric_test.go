package fabric_test

import (
	"cmp"
	"fmt"
	"math"
	"math/rand/v2"
	"slices"
	"strings"
	"testing"

	"dyeworks/api"
	"dyeworks/conf"
	"dyeworks/fabric"
	"dyeworks/wire"
)

// base: what is wanted in most rows. The tenant 1 has three switches, the last one without a Gate, the tenant 2 has one with the same Macs, Ips and Gate. The ports do not stand in the order of their numbers.
func base() api.Conf {
	return api.Conf{
		Switches: []api.Switch{{Id: 1, Tenant: 1, Gate: 100}, {Id: 500, Tenant: 1, Gate: 200}, {Id: 3, Tenant: 1}, {Id: 4, Tenant: 2, Gate: 100}},
		Ports: []api.Port{
			{Id: 30, Switch: 1, Mac: 13, Ip: 53, Chassis: 0},
			{Id: 9, Switch: 1, Mac: 14, Ip: 54, Chassis: -1},
			{Id: 1, Switch: 1, Mac: 11, Ip: 51, Chassis: 0},
			{Id: 2, Switch: 1, Mac: 12, Ip: 52, Chassis: 3},
			{Id: 20, Switch: 1, Mac: 15, Ip: 55, Chassis: 5},
			{Id: 5, Switch: 500, Mac: 11, Ip: 61, Chassis: 5},
			{Id: 6, Switch: 500, Mac: 16, Ip: 62, Chassis: -1},
			{Id: 7, Switch: 3, Mac: 12, Ip: 71, Chassis: 0},
			{Id: 8, Switch: 3, Mac: 18, Ip: 72, Chassis: 3},
			{Id: 999, Switch: 4, Mac: 12, Ip: 52, Chassis: 0},
			{Id: 10, Switch: 4, Mac: 11, Ip: 81, Chassis: 3},
		},
	}
}

// with: what is wanted, and rules.
func with(c api.Conf, rules ...api.Acl) api.Conf {
	c.Acls = append(slices.Clone(c.Acls), rules...)
	return c
}

// data of the port 1 of base.
func data(dst, ipDst, ttl int) api.Frame {
	return api.Frame{Dst: dst, Src: 11, Kind: api.Data, IpSrc: 51, IpDst: ipDst, Ttl: ttl, Port: 80, Body: "hello"}
}

// routed: such data behind the router at a switch.
func routed(dst, of, ipDst, ttl int) api.Frame {
	f := data(dst, ipDst, ttl)
	f.Src = 60000 + of
	return f
}

// ask of the port 1 of base.
func ask(ip int) api.Frame {
	return api.Frame{Dst: 7, Src: 11, Kind: api.Ask, IpSrc: 51, IpDst: ip}
}

// answer at the port 1 of base.
func answer(mac, ip int) api.Frame {
	return api.Frame{Dst: 11, Src: mac, Kind: api.Answer, IpSrc: ip, IpDst: 51}
}

// at: the frame arrives at these ports.
func at(f api.Frame, ports ...int) []api.Arrived {
	var l []api.Arrived
	for _, id := range ports {
		l = append(l, api.Arrived{Port: id, Is: f})
	}
	return l
}

// making: a script that makes what is wanted.
func making(c api.Conf) []api.Act {
	var l []api.Act
	for _, s := range c.Switches {
		l = append(l, api.Act{Kind: api.AddSwitch, Switch: s})
	}
	for _, p := range c.Ports {
		l = append(l, api.Act{Kind: api.AddPort, Port: p})
	}
	for _, r := range c.Acls {
		l = append(l, api.Act{Kind: api.AddAcl, Acl: r})
	}
	return l
}

// syncs: all chassis learn what is wanted.
func syncs() []api.Act {
	var l []api.Act
	for chassis := range api.MaxChassis {
		l = append(l, sync(chassis))
	}
	return l
}

func sync(chassis int) api.Act { return api.Act{Kind: api.Sync, N: chassis} }

func send(id int, f api.Frame) api.Act { return api.Act{Kind: api.Send, N: id, Frame: f} }

func bind(id, chassis int) api.Act { return api.Act{Kind: api.Bind, N: id, M: chassis} }

func drop(id int) api.Act { return api.Act{Kind: api.DropPort, N: id} }

func add(p api.Port) api.Act { return api.Act{Kind: api.AddPort, Port: p} }

func sameConf(a, b api.Conf) bool {
	return slices.Equal(a.Switches, b.Switches) && slices.Equal(a.Ports, b.Ports) && slices.Equal(a.Acls, b.Acls)
}

func sameReply(a, b api.Reply) bool {
	return a.Code == b.Code && slices.Equal(a.Come, b.Come)
}

// find the port with that Id; one with the Id 0, if there is none.
func find(c api.Conf, id int) api.Port {
	for _, p := range c.Ports {
		if p.Id == id {
			return p
		}
	}
	return api.Port{}
}

func switchOf(c api.Conf, p api.Port) api.Switch {
	at := slices.IndexFunc(c.Switches, func(s api.Switch) bool { return s.Id == p.Switch })
	return c.Switches[at]
}

// allows: do the rules of a switch allow a frame (P4.2)?
func allows(c api.Conf, net int, in bool, f api.Frame) bool {
	rules := slices.DeleteFunc(slices.Clone(c.Acls), func(r api.Acl) bool {
		return r.Switch != net || r.In != in || r.Port != -1 && r.Port != f.Port ||
			(r.Src^f.IpSrc)>>(16-r.SrcBits) != 0 || (r.Dst^f.IpDst)>>(16-r.DstBits) != 0
	})
	slices.SortStableFunc(rules, func(a, b api.Acl) int { return b.Prio - a.Prio })
	return len(rules) == 0 || !rules[0].Deny
}

// led: to which ports does a frame lead that is sent at one with its own addresses (P4.3, P4.4)?
func led(c api.Conf, p api.Port, f api.Frame) []api.Arrived {
	var l []api.Arrived
	s := switchOf(c, p)
	if f.Kind == api.Ask && s.Gate != 0 && s.Gate == f.IpDst {
		l = at(api.Frame{Dst: p.Mac, Src: 60000 + s.Id, Kind: api.Answer, IpSrc: f.IpDst, IpDst: p.Ip}, p.Id)
	}
	isData := f.Kind == api.Data && allows(c, s.Id, true, f)
	for _, q := range c.Ports {
		o, isOther := switchOf(c, q), q.Switch == p.Switch && q.Id != p.Id
		switch {
		case f.Kind == api.Ask && isOther && q.Ip == f.IpDst:
			l = at(api.Frame{Dst: p.Mac, Src: q.Mac, Kind: api.Answer, IpSrc: q.Ip, IpDst: p.Ip}, p.Id)
		case !isData || q.Chassis == -1:
		case isOther && (f.Dst == 65535 || f.Dst == q.Mac):
			l = append(l, at(f, q.Id)...)
		case f.Dst == 60000+s.Id && f.Ttl > 1 && f.IpDst == q.Ip && s.Tenant == o.Tenant && s.Gate != 0 && o.Gate != 0:
			g := f
			g.Dst, g.Src, g.Ttl = q.Mac, 60000+o.Id, f.Ttl-1
			l = append(l, at(g, q.Id)...)
		}
	}
	return l
}

// fleet: what each chassis knows, as what was wanted then.
type fleet [6]api.Conf

// arrive (P5.1): a second reading of the chapter, without flows and bytes.
func (known fleet) arrive(chassis, id int, f api.Frame) []api.Arrived {
	here := known[chassis]
	p := find(here, id)
	if p.Id == 0 || p.Chassis != chassis || p.Mac != f.Src || p.Ip != f.IpSrc {
		return nil
	}
	var come []api.Arrived
	for _, a := range led(here, p, f) {
		q := find(here, a.Port)
		there := known[q.Chassis]
		r := find(there, a.Port)
		if r.Id != 0 && r.Chassis == q.Chassis && r.Switch == q.Switch && (a.Is.Kind == api.Answer || allows(there, r.Switch, false, a.Is)) {
			come = append(come, a)
		}
	}
	slices.SortFunc(come, func(a, b api.Arrived) int { return cmp.Compare(a.Port, b.Port) })
	return come
}

// sent (P5.2, P5.3): the reply to a frame that is sent at a port.
func (known fleet) sent(c api.Conf, id int, f api.Frame) api.Reply {
	p := find(c, id)
	if p.Id == 0 || p.Chassis == -1 {
		return api.Reply{Code: api.ErrNone}
	}
	if e := wire.Check(f); e != api.OK {
		return api.Reply{Code: e}
	}
	return api.Reply{Come: known.arrive(p.Chassis, id, f)}
}

// read a script (P5.3), without flows and bytes.
func read(l []api.Act) ([]api.Reply, api.Conf) {
	var (
		known   fleet
		wanted  api.Conf
		replies []api.Reply
	)
	for _, a := range l {
		var r api.Reply
		switch {
		case a.Kind == api.Sync && (a.N < 0 || a.N > 5):
			r.Code = api.ErrRange
		case a.Kind == api.Sync:
			known[a.N] = wanted
		case a.Kind == api.Send:
			r = known.sent(wanted, a.N, a.Frame)
		default:
			next, e := conf.Apply(wanted, a)
			if r.Code = e; e == api.OK {
				wanted = next
			}
		}
		replies = append(replies, r)
	}
	return replies, wanted
}

// allKnow: what is wanted, at each chassis.
func allKnow(c api.Conf) fleet { return fleet{c, c, c, c, c, c} }

// delivers: is what Deliver answers what is wanted, and what the second reading says?
func delivers(t *testing.T, c api.Conf, id int, f api.Frame, want []api.Arrived) {
	t.Helper()
	come, e := fabric.Deliver(c, id, f)
	if e != api.OK || !slices.Equal(come, want) {
		t.Errorf("Deliver(%v, %d, %+v): %+v %v, want %+v", c, id, f, come, e, want)
	}
	if r := allKnow(c).sent(c, id, f); !sameReply(r, api.Reply{Come: want}) {
		t.Errorf("the other reading of %v, %d, %+v: %+v, want %+v", c, id, f, r, want)
	}
}

// endsWith: are the replies to the last acts of a script these, all others OK, and is all as the second reading says?
func endsWith(t *testing.T, l []api.Act, want ...api.Reply) {
	t.Helper()
	replies, c, e := fabric.Run(l)
	if e != api.OK || len(replies) != len(l) {
		t.Fatalf("Run(%+v): %+v %v %v", l, replies, c, e)
	}
	first := len(l) - len(want)
	for i, r := range replies {
		var w api.Reply
		if i >= first {
			w = want[i-first]
		}
		if !sameReply(r, w) {
			t.Errorf("act %d, %+v: %+v, want %+v", i, l[i], r, w)
		}
	}
	others, wanted := read(l)
	if !slices.EqualFunc(replies, others, sameReply) || !sameConf(c, wanted) {
		t.Errorf("Run(%+v): %+v %v, the other reading: %+v %v", l, replies, c, others, wanted)
	}
}

// came: a reply with these.
func came(l []api.Arrived) api.Reply { return api.Reply{Come: l} }

// refused: a reply with that alone.
func refused(e api.Errno) api.Reply { return api.Reply{Code: e} }

// nothing: the reply to an act that is done and of which nothing comes.
var nothing = api.Reply{}

// The document's examples of the whole.
func TestWhole(t *testing.T) {
	c := api.Conf{
		Switches: []api.Switch{{Id: 1, Tenant: 1}},
		Ports:    []api.Port{{Id: 1, Switch: 1, Mac: 11, Ip: 51, Chassis: 0}, {Id: 2, Switch: 1, Mac: 12, Ip: 52, Chassis: 3}},
	}
	delivers(t, c, 1, data(12, 52, 9), at(data(12, 52, 9), 2))
	delivers(t, c, 1, ask(52), at(answer(12, 52), 1))
}

// P5.1, P5.2: where a frame arrives, when all chassis know what is wanted.
func TestDeliver(t *testing.T) {
	full := api.Frame{Dst: 12, Src: 11, Kind: api.Data, IpSrc: 51, IpDst: 65535, Ttl: 255, Port: 65535, Body: strings.Repeat("\xff", 40)}
	other := func(f api.Frame, mac, ip int) api.Frame { f.Src, f.IpSrc = mac, ip; return f }
	for _, x := range []struct {
		id   int
		f    api.Frame
		come []api.Arrived
	}{
		{1, data(12, 52, 9), at(data(12, 52, 9), 2)},  // at another chassis
		{1, data(13, 53, 0), at(data(13, 53, 0), 30)}, // at the same one
		{1, full, at(full, 2)},
		{1, data(14, 54, 9), nil}, // nowhere
		{1, data(11, 51, 9), nil}, // itself
		{1, data(18, 72, 9), nil}, // of another switch
		{1, data(65535, 0, 0), at(data(65535, 0, 0), 2, 20, 30)},
		{1, data(60001, 61, 9), at(routed(11, 500, 61, 8), 5)},
		{1, data(60001, 61, 2), at(routed(11, 500, 61, 1), 5)},
		{1, data(60001, 61, 1), nil},
		{1, data(60001, 53, 9), at(routed(13, 1, 53, 8), 30)},
		{1, data(60001, 51, 9), at(routed(11, 1, 51, 8), 1)},
		{1, data(60001, 52, 9), at(routed(12, 1, 52, 8), 2)}, // and not at the other tenant's
		{1, data(60001, 71, 9), nil},                         // its switch has no Gate
		{1, data(60001, 81, 9), nil},                         // of another tenant
		{1, data(60500, 61, 9), nil},
		{1, ask(52), at(answer(12, 52), 1)},
		{1, ask(54), at(answer(14, 54), 1)}, // that port is nowhere
		{1, ask(100), at(answer(60001, 100), 1)},
		{1, ask(51), nil},
		{1, ask(61), nil},
		{1, ask(200), nil},
		{1, ask(0), nil},
		{1, answer(12, 52), nil},
		{1, api.Frame{Dst: 12, Src: 11, Kind: api.Answer, IpSrc: 51, IpDst: 52}, nil},
		{1, other(data(12, 52, 9), 13, 51), nil}, // addresses that are not its own
		{1, other(data(12, 52, 9), 11, 53), nil},
		{1, other(ask(52), 13, 53), nil},
		{2, other(data(65535, 0, 0), 12, 52), at(other(data(65535, 0, 0), 12, 52), 1, 20, 30)},
		{999, other(data(11, 81, 0), 12, 52), at(other(data(11, 81, 0), 12, 52), 10)},
		{7, other(data(18, 72, 0), 12, 71), at(other(data(18, 72, 0), 12, 71), 8)},
	} {
		delivers(t, base(), x.id, x.f, x.come)
	}
}

// P5.1: rules for what comes in where it is sent, for what goes out where it arrives; none for Answers.
func TestDeliverRules(t *testing.T) {
	deny := func(net int, in bool, dst int) api.Acl {
		return api.Acl{Switch: net, In: in, Port: 80, Dst: dst, DstBits: 16, Deny: true}
	}
	c := with(base(), deny(1, true, 52), deny(1, false, 55), deny(500, true, 61), deny(4, false, 53))
	delivers(t, c, 1, data(12, 52, 9), nil)
	delivers(t, c, 1, data(15, 55, 9), nil)
	delivers(t, c, 1, data(13, 53, 9), at(data(13, 53, 9), 30))
	delivers(t, c, 1, data(60001, 61, 9), at(routed(11, 500, 61, 8), 5))
	delivers(t, c, 1, data(65535, 52, 9), nil)
	delivers(t, c, 1, data(65535, 55, 9), nil)
	delivers(t, c, 1, ask(52), at(answer(12, 52), 1))
	delivers(t, with(base(), deny(500, false, 61)), 1, data(60001, 61, 9), nil)
	none := with(base(), api.Acl{Switch: 1, In: true, Port: -1, Deny: true}, api.Acl{Switch: 1, Port: -1, Deny: true})
	delivers(t, none, 1, ask(100), at(answer(60001, 100), 1))
	delivers(t, none, 1, data(12, 52, 9), nil)
}

// P5.2: what is refused, in its order; with it nothing is told.
func TestDeliverRefused(t *testing.T) {
	bad := base()
	bad.Ports[0].Id = 1
	none := api.Frame{}
	for _, x := range []struct {
		c  api.Conf
		id int
		f  api.Frame
		e  api.Errno
	}{
		{bad, 1, data(12, 52, 9), api.ErrState},
		{bad, 77, data(12, 52, 9), api.ErrState},
		{bad, 9, none, api.ErrState},
		{api.Conf{Switches: make([]api.Switch, 1)}, 1, none, api.ErrState},
		{api.Conf{Ports: base().Ports}, 1, data(12, 52, 9), api.ErrState},
		{with(base(), slices.Repeat([]api.Acl{{Switch: 1}}, 41)...), 1, data(12, 52, 9), api.ErrState},
		{api.Conf{}, 1, data(12, 52, 9), api.ErrNone},
		{base(), 0, data(12, 52, 9), api.ErrNone},
		{base(), 3, data(12, 52, 9), api.ErrNone},
		{base(), -1, data(12, 52, 9), api.ErrNone},
		{base(), math.MinInt, none, api.ErrNone},
		{base(), math.MaxInt, none, api.ErrNone},
		{base(), 65537, data(12, 52, 9), api.ErrNone},
		{base(), 9, api.Frame{Dst: 11, Src: 14, Kind: api.Data, IpSrc: 54, IpDst: 51}, api.ErrNone}, // it is nowhere
		{base(), 9, none, api.ErrNone},
		{base(), 1, none, api.ErrKind},
		{base(), 1, api.Frame{Kind: 4, Dst: -1}, api.ErrKind},
		{base(), 1, data(65536, 52, 9), api.ErrRange},
		{base(), 1, data(12, -1, 9), api.ErrRange},
		{base(), 1, data(12, 52, 256), api.ErrRange},
		{base(), 1, api.Frame{Dst: 12, Src: 11, Kind: api.Data, IpSrc: 51, Body: strings.Repeat("b", 41)}, api.ErrSize},
		{base(), 1, api.Frame{Src: 11, Kind: api.Ask, IpSrc: 51, IpDst: 52, Ttl: 1}, api.ErrForm},
		{base(), 1, api.Frame{Src: 7, Kind: api.Answer, Body: "b"}, api.ErrForm}, // ahead of its Src that is not the port's
	} {
		if come, e := fabric.Deliver(x.c, x.id, x.f); len(come) != 0 || e != x.e {
			t.Errorf("Deliver(%v, %d, %+v): %+v %v, want %v", x.c, x.id, x.f, come, e, x.e)
		}
	}
}

// P5.3: more than MaxActs are refused, whatever they are; with that nothing is told.
func TestRunSize(t *testing.T) {
	for _, n := range []int{0, 1, 299, 300} {
		l := slices.Repeat([]api.Act{{Kind: api.AddSwitch, Switch: api.Switch{Id: 1, Tenant: 1}}}, n)
		replies, c, e := fabric.Run(l)
		if e != api.OK || len(replies) != n || len(c.Switches) != min(n, 1) {
			t.Errorf("%d acts: %d replies, %v %v", n, len(replies), c, e)
		}
	}
	for _, n := range []int{301, 302, 100000} {
		l := slices.Repeat([]api.Act{{Kind: api.AddSwitch, Switch: api.Switch{Id: 1, Tenant: 1}}}, n)
		if replies, c, e := fabric.Run(l); e != api.ErrSize || len(replies) != 0 || !sameConf(c, api.Conf{}) {
			t.Errorf("%d acts: %v %v %v", n, replies, c, e)
		}
	}
	if replies, c, e := fabric.Run(nil); e != api.OK || len(replies) != 0 || !sameConf(c, api.Conf{}) {
		t.Errorf("no acts: %v %v %v", replies, c, e)
	}
}

// P5.3: each act has its reply, with what is refused; then nothing is done.
func TestRefusedActs(t *testing.T) {
	rule := api.Acl{Switch: 1, Prio: 5, In: true, Port: 80}
	long := api.Frame{Src: 11, Kind: api.Data, IpSrc: 51, Body: strings.Repeat("b", 41)}
	for _, x := range []struct {
		a api.Act
		e api.Errno
	}{
		{api.Act{}, api.ErrKind},
		{api.Act{Kind: 9}, api.ErrKind},
		{api.Act{Kind: -1}, api.ErrKind},
		{api.Act{Kind: math.MinInt}, api.ErrKind},
		{api.Act{Kind: math.MaxInt}, api.ErrKind},
		{api.Act{Kind: api.AddSwitch}, api.ErrRange},
		{api.Act{Kind: api.AddSwitch, Switch: api.Switch{Id: 1, Tenant: 1}}, api.ErrTwice},
		{add(api.Port{}), api.ErrRange},
		{add(api.Port{Id: 3, Switch: 2, Mac: 1, Ip: 1}), api.ErrNone},
		{add(api.Port{Id: 1, Switch: 1, Mac: 1, Ip: 1}), api.ErrTwice},
		{api.Act{Kind: api.AddAcl, Acl: api.Acl{Prio: -1}}, api.ErrRange},
		{api.Act{Kind: api.AddAcl, Acl: api.Acl{Switch: 1, Src: 1}}, api.ErrForm},
		{api.Act{Kind: api.AddAcl, Acl: api.Acl{Switch: 2}}, api.ErrNone},
		{drop(3), api.ErrNone},
		{bind(3, 0), api.ErrNone},
		{bind(1, 6), api.ErrRange},
		{bind(1, -2), api.ErrRange},
		{api.Act{Kind: api.DropAcl, N: 1}, api.ErrNone},
		{api.Act{Kind: api.DropAcl, N: -1}, api.ErrNone},
		{sync(-1), api.ErrRange},
		{sync(6), api.ErrRange},
		{sync(math.MinInt), api.ErrRange},
		{sync(math.MaxInt), api.ErrRange},
		{send(3, data(12, 52, 9)), api.ErrNone},
		{send(9, data(12, 52, 9)), api.ErrNone},
		{send(9, api.Frame{}), api.ErrNone},
		{send(-1, api.Frame{}), api.ErrNone},
		{send(math.MinInt, api.Frame{}), api.ErrNone},
		{send(1, api.Frame{}), api.ErrKind},
		{send(1, data(12, 65536, 9)), api.ErrRange},
		{send(1, long), api.ErrSize},
		{send(1, api.Frame{Kind: api.Ask, Port: 1}), api.ErrForm},
	} {
		l := append(making(with(base(), rule)), syncs()...)
		endsWith(t, append(l, x.a, send(1, data(12, 52, 9))), refused(x.e), came(at(data(12, 52, 9), 2)))
		if _, c, _ := fabric.Run(append(l, x.a)); !sameConf(c, with(base(), rule)) {
			t.Errorf("behind %+v: %v", x.a, c)
		}
	}
}

// P5.3: what is wanted in the end is told, with what was refused or not.
func TestWantedInTheEnd(t *testing.T) {
	c := with(base(), api.Acl{Switch: 1, Prio: 5, In: true, Port: 80}, api.Acl{Switch: 4, Port: 7, Deny: true})
	l := append(making(c), sync(0), sync(9), drop(30), bind(9, 4), bind(1, -1), api.Act{Kind: api.DropAcl}, api.Act{}, send(2, ask(52)))
	want := conf.Copy(c)
	want.Ports[1].Chassis, want.Ports[2].Chassis = 4, -1
	want.Ports, want.Acls = want.Ports[1:], want.Acls[1:]
	replies, got, e := fabric.Run(l)
	if e != api.OK || len(replies) != len(l) || !sameConf(got, want) {
		t.Errorf("Run: %v %v %v, want %v", replies, got, e, want)
	}
}

// P5.3: at first no chassis knows anything; a frame arrives when both know what they need.
func TestLearning(t *testing.T) {
	l, f := making(base()), data(12, 52, 9)
	hit := came(at(f, 2))
	endsWith(t, append(l, send(1, f)), nothing)
	endsWith(t, append(l, sync(0), send(1, f)), nothing)
	endsWith(t, append(l, sync(3), send(1, f)), nothing)
	endsWith(t, slices.Concat(l, syncs()[1:], []api.Act{send(1, f)}), nothing)
	endsWith(t, append(l, send(1, f), sync(0), send(1, f), sync(3), send(1, f)), nothing, nothing, nothing, nothing, hit)
	endsWith(t, append(l, sync(3), sync(0), send(1, f)), hit)
	// An Ask needs the chassis of the sending port alone.
	endsWith(t, append(l, send(1, ask(52)), sync(0), send(1, ask(52))), nothing, nothing, came(at(answer(12, 52), 1)))
	// Of all ports those at chassis that know them.
	g := data(65535, 0, 0)
	endsWith(t, append(l, sync(0), send(1, g), sync(5), send(1, g), sync(3), send(1, g)),
		came(at(g, 30)), nothing, came(at(g, 20, 30)), nothing, came(at(g, 2, 20, 30)))
	// What was known ahead of what is wanted is nothing, too.
	endsWith(t, slices.Concat(syncs(), l, []api.Act{send(1, f)}), nothing)
}

// all: a script that makes base, and all chassis know it.
func all() []api.Act { return append(making(base()), syncs()...) }

// P5.3: a port that moves: the sending chassis knows where to, the other one whether it is there.
func TestLateBind(t *testing.T) {
	f := data(12, 52, 9)
	hit := came(at(f, 2))
	moved := append(all(), bind(2, 4))
	endsWith(t, append(moved, send(1, f)), hit) // none of them knows
	endsWith(t, append(moved, sync(3), send(1, f)), nothing)
	endsWith(t, append(moved, sync(4), send(1, f)), hit) // still by way of 3
	endsWith(t, append(moved, sync(0), send(1, f)), nothing)
	endsWith(t, append(moved, sync(0), sync(4), send(1, f)), hit)
	endsWith(t, append(moved, sync(0), sync(3), send(1, f)), nothing)
	// To the sending port's chassis, and from there nowhere.
	endsWith(t, append(all(), bind(2, 0), send(1, f), sync(0), send(1, f), sync(3), send(1, f)), hit, nothing, hit, nothing, hit)
	endsWith(t, append(all(), bind(2, -1), send(1, f), sync(3), send(1, f)), hit, nothing, nothing)
	endsWith(t, append(all(), bind(2, -1), sync(0), send(1, f)), nothing)
	// Answers are for ports wherever they are.
	endsWith(t, append(all(), bind(2, -1), sync(0), send(1, ask(52))), came(at(answer(12, 52), 1)))
}

// P5.3: the sending port is at the chassis where it is wanted to be, whatever the chassis know.
func TestLateSender(t *testing.T) {
	f := data(12, 52, 9)
	hit := came(at(f, 2))
	endsWith(t, append(all(), bind(1, 4), send(1, f)), nothing)
	endsWith(t, append(all(), bind(1, 4), sync(0), send(1, f)), nothing)
	endsWith(t, append(all(), bind(1, 4), sync(4), send(1, f)), hit)
	endsWith(t, append(all(), bind(1, -1), send(1, f)), refused(api.ErrNone))
	endsWith(t, append(all(), drop(1), send(1, f)), refused(api.ErrNone))
	// There and back: the first chassis has not learned of it, and need not.
	endsWith(t, append(all(), bind(1, 4), sync(4), bind(1, 0), send(1, ask(52)), sync(0), send(1, ask(52))),
		came(at(answer(12, 52), 1)), nothing, came(at(answer(12, 52), 1)))
	// New addresses hold when the chassis knows them.
	again := append(all(), drop(1), add(api.Port{Id: 1, Switch: 1, Mac: 41, Ip: 41, Chassis: 0}))
	g := f
	g.Src, g.IpSrc = 41, 41
	endsWith(t, append(again, send(1, f), send(1, g), sync(0), send(1, f), send(1, g)), hit, nothing, nothing, nothing, came(at(g, 2)))
}

// P5.3: ports that go and come, and what each chassis knows of them.
func TestLateDrop(t *testing.T) {
	f := data(12, 52, 9)
	hit := came(at(f, 2))
	gone := append(all(), drop(2))
	endsWith(t, append(gone, send(1, f), sync(3), send(1, f), sync(0), send(1, f)), hit, nothing, nothing, nothing, nothing)
	endsWith(t, append(gone, sync(0), send(1, f), send(1, ask(52))), nothing, nothing)
	endsWith(t, append(gone, sync(3), send(1, ask(52))), came(at(answer(12, 52), 1))) // by what 0 knows
	// The number of a port that is another one now.
	again := append(gone, add(api.Port{Id: 2, Switch: 1, Mac: 42, Ip: 42, Chassis: 3}))
	endsWith(t, append(again, sync(3), send(1, f)), hit)
	endsWith(t, append(again, sync(0), send(1, f), send(1, data(42, 42, 9))), nothing, came(at(data(42, 42, 9), 2)))
}

// P5.3: rules for what comes in are those that the sending chassis knows, for what goes out those of the other one.
func TestLateRules(t *testing.T) {
	f := data(12, 52, 9)
	hit := came(at(f, 2))
	in := append(all(), api.Act{Kind: api.AddAcl, Acl: api.Acl{Switch: 1, In: true, Port: 80, Deny: true}})
	endsWith(t, append(in, send(1, f), sync(3), send(1, f), sync(0), send(1, f)), hit, nothing, hit, nothing, nothing)
	out := append(all(), api.Act{Kind: api.AddAcl, Acl: api.Acl{Switch: 1, Port: 80, Deny: true}})
	endsWith(t, append(out, send(1, f), sync(0), send(1, f), sync(3), send(1, f)), hit, nothing, hit, nothing, nothing)
	back := append(out, sync(0), sync(3), api.Act{Kind: api.DropAcl})
	endsWith(t, append(back, send(1, f), sync(3), send(1, f)), nothing, nothing, hit)
	// A greater rule comes ahead of one that a chassis has already.
	more := append(out, sync(3), api.Act{Kind: api.AddAcl, Acl: api.Acl{Switch: 1, Prio: 1, Port: 80}})
	endsWith(t, append(more, send(1, f), sync(3), send(1, f)), nothing, nothing, hit)
}

// P5.1, P5.3: what is led to a port of one switch does not come to that number at another one, of whatever tenant.
func TestLateTenant(t *testing.T) {
	for _, net := range []int{3, 4} {
		port := api.Port{Id: 2, Switch: net, Mac: 42, Ip: 42, Chassis: 3}
		l := append(all(), drop(2), add(port), sync(3))
		for _, f := range []api.Frame{data(12, 52, 9), data(60001, 52, 9)} {
			endsWith(t, append(l, send(1, f)), nothing)
		}
		endsWith(t, append(l, send(1, data(65535, 0, 0))), came(at(data(65535, 0, 0), 20, 30)))
	}
}

// drawnSwitch: the odd ones are of one tenant, the even ones of another. Most have a Gate, that is no other one's.
func drawnSwitch(r *rand.Rand, id int) api.Switch {
	return api.Switch{Id: id, Tenant: 1 + id%2, Gate: min(r.IntN(5), 1) * id * 100}
}

// drawnPort: one whose number tells its tenant, so that it stays that, however late a chassis is.
func drawnPort(r *rand.Rand) api.Port {
	id := 1 + r.IntN(14)
	return api.Port{Id: id, Switch: 2 - id%2 + 2*r.IntN(2), Mac: 1 + r.IntN(9), Ip: 1 + r.IntN(16), Chassis: r.IntN(5) - 1}
}

// drawnChange: an act that changes what is wanted, with numbers that meet one another. If it is tied, the number of a port tells its tenant.
func drawnChange(r *rand.Rand, tied bool) api.Act {
	id := 1 + r.IntN(4)
	a := api.Act{
		Switch: drawnSwitch(r, 1+r.IntN(6)),
		Port:   drawnPort(r),
		Acl: api.Acl{Switch: id, Prio: r.IntN(3), In: r.IntN(2) == 0, Src: r.IntN(4) * 4, SrcBits: []int{0, 14, 16}[r.IntN(3)],
			Dst: r.IntN(4) * 4, DstBits: []int{0, 14, 16}[r.IntN(3)], Port: r.IntN(3) - 1, Deny: r.IntN(3) > 0},
		N: 1 + r.IntN(14),
		M: r.IntN(6) - 1,
	}
	if !tied {
		a.Port.Switch = id
	}
	a.Kind = []int{api.AddSwitch, api.AddPort, api.AddPort, api.AddPort, api.AddPort, api.AddPort, api.AddAcl, api.DropPort, api.Bind, api.DropAcl}[r.IntN(10)]
	if a.Kind == api.DropAcl {
		a.N %= 4
	}
	return a
}

// drawnFrame: one that may be, mostly with the addresses of ports that are or were.
func drawnFrame(r *rand.Rand, ports []api.Port) (int, api.Frame) {
	p, q := ports[r.IntN(len(ports))], ports[r.IntN(len(ports))]
	f := api.Frame{Dst: q.Mac, Src: p.Mac, Kind: api.Data, IpSrc: p.Ip, IpDst: q.Ip}
	switch r.IntN(8) {
	case 0, 1:
		f.Dst = api.Broadcast
	case 2, 3, 4:
		f.Dst = api.RouterBase + p.Switch
	case 5:
		f.Kind = 1 + r.IntN(2)
		f.IpDst = []int{q.Ip, 100, 200, 300, 400}[r.IntN(5)]
		return p.Id, f
	}
	f.Ttl, f.Port, f.Body = r.IntN(4), r.IntN(3), "xyz"[:r.IntN(4)]
	return p.Id, f
}

// drawnScript: switches, and changes, Syncs and Sends.
func drawnScript(r *rand.Rand, tied bool) []api.Act {
	var l []api.Act
	for id := 1; id < 5; id++ {
		l = append(l, api.Act{Kind: api.AddSwitch, Switch: drawnSwitch(r, id)})
	}
	ports := []api.Port{{Id: 1, Switch: 1, Mac: 1, Ip: 1}}
	change := func() {
		a := drawnChange(r, tied)
		if a.Kind == api.AddPort {
			ports = append(ports, a.Port)
		}
		l = append(l, a)
	}
	for range 30 {
		change()
	}
	l = append(l, syncs()[r.IntN(7):]...)
	for range r.IntN(100) {
		switch r.IntN(6) {
		case 0:
			change()
		case 1:
			l = append(l, sync(r.IntN(8)-1))
		default:
			l = append(l, send(drawnFrame(r, ports)))
		}
	}
	return l
}

// P5.1 to P5.3: drawn scripts, held against a second reading of the chapter.
func TestDrawn(t *testing.T) {
	r := rand.New(rand.NewPCG(1, 2))
	seen := [3]int{}
	for range 1500 {
		l := drawnScript(r, r.IntN(2) == 0)
		replies, c, e := fabric.Run(l)
		others, wanted := read(l)
		if e != api.OK || !slices.EqualFunc(replies, others, sameReply) || !sameConf(c, wanted) {
			t.Fatalf("Run(%+v): %+v %v %v, want %+v %v", l, replies, c, e, others, wanted)
		}
		for i, a := range l {
			if a.Kind == api.Send {
				seen[min(len(replies[i].Come), 2)]++
			}
		}
		id, f := drawnFrame(r, append(c.Ports, api.Port{Id: 77}))
		come, e := fabric.Deliver(c, id, f)
		if want := allKnow(c).sent(c, id, f); !sameReply(api.Reply{Code: e, Come: come}, want) {
			t.Fatalf("Deliver(%v, %d, %+v): %+v %v, want %+v", c, id, f, come, e, want)
		}
	}
	for n, times := range seen {
		if times < 500 {
			t.Errorf("%d ports: seen %d times alone", n, times)
		}
	}
}

// What comes of it: a frame arrives at ports of its own tenant alone, whatever the chassis know.
func TestDrawnTenants(t *testing.T) {
	r := rand.New(rand.NewPCG(3, 4))
	some := 0
	for range 1500 {
		l := drawnScript(r, true)
		replies, _, _ := fabric.Run(l)
		for i, x := range replies {
			for _, a := range x.Come {
				some++
				if a.Port%2 != l[i].N%2 {
					t.Fatalf("%+v: act %d, %+v, arrives at %+v", l, i, l[i], a)
				}
			}
		}
	}
	if some < 2000 {
		t.Errorf("%d frames arrive alone", some)
	}
}

// P5.3: what a chassis knows hangs on what was wanted at its last Sync alone, not on what it knew ahead of that.
func TestPatched(t *testing.T) {
	r := rand.New(rand.NewPCG(7, 8))
	for range 300 {
		l := drawnScript(r, false)
		_, c, _ := fabric.Run(l)
		id, f := drawnFrame(r, append(c.Ports, api.Port{Id: 77}))
		l = slices.Concat(l, syncs(), []api.Act{send(id, f)})
		replies, _, _ := fabric.Run(l)
		come, e := fabric.Deliver(c, id, f)
		if last := replies[len(l)-1]; !sameReply(last, api.Reply{Code: e, Come: come}) {
			t.Fatalf("Run(%+v): %+v, Deliver: %+v %v", l, last, come, e)
		}
	}
}

// P5.1, P5.3: all limits at once.
func TestFull(t *testing.T) {
	var c api.Conf
	for i := range api.MaxSwitches {
		c.Switches = append(c.Switches, api.Switch{Id: 500 - i, Tenant: 9, Gate: 65535 - i})
	}
	for i := range api.MaxPorts {
		c.Ports = append(c.Ports, api.Port{Id: 999 - i, Switch: 500, Mac: 59999 - i, Ip: 60000 + i, Chassis: i % 6})
	}
	for i := range api.MaxAcls {
		c.Acls = append(c.Acls, api.Acl{Switch: 500, Prio: 1000, In: i%2 == 0, Port: i, Src: 65535, SrcBits: 16, Deny: true})
	}
	f := api.Frame{Dst: 65535, Src: 59999, Kind: api.Data, IpSrc: 60000, Ttl: 255, Body: strings.Repeat("b", 40)}
	var ports []int
	for id := 999 - 39; id < 999; id++ {
		ports = append(ports, id)
	}
	delivers(t, c, 999, f, at(f, ports...))
	l := append(making(c), syncs()...)
	sends := slices.Repeat([]api.Act{send(999, f)}, api.MaxActs-len(l))
	endsWith(t, append(l, sends...), slices.Repeat([]api.Reply{came(at(f, ports...))}, len(sends))...)
}

// What holds everywhere: no numbers make a call panic; what is refused is so with nothing else.
func TestWild(t *testing.T) {
	r := rand.New(rand.NewPCG(5, 6))
	edges := []int{math.MinInt, -65536, -2, -1, 0, 1, 2, 3, 4, 5, 6, 7, 8, 9, 11, 12, 16, 17, 51, 52, 60001, 65535, 65536, math.MaxInt}
	n := func() int { return edges[r.IntN(len(edges))] }
	bodies := []string{"", "b", strings.Repeat("b", 40), strings.Repeat("b", 41), strings.Repeat("b", 70000)}
	frame := func() api.Frame {
		return api.Frame{Dst: n(), Src: n(), Kind: n(), IpSrc: n(), IpDst: n(), Ttl: n(), Port: n(), Body: bodies[r.IntN(len(bodies))]}
	}
	for range 2000 {
		l := all()
		for range 10 {
			l = append(l, api.Act{
				Kind:   n(),
				Switch: api.Switch{Id: n(), Tenant: n(), Gate: n()},
				Port:   api.Port{Id: n(), Switch: n(), Mac: n(), Ip: n(), Chassis: n()},
				Acl:    api.Acl{Switch: n(), Prio: n(), Src: n(), SrcBits: n(), Dst: n(), DstBits: n(), Port: n()},
				N:      n(),
				M:      n(),
				Frame:  frame(),
			})
		}
		replies, c, e := fabric.Run(l)
		others, wanted := read(l)
		if e != api.OK || !slices.EqualFunc(replies, others, sameReply) || !sameConf(c, wanted) {
			t.Fatalf("Run(%+v): %+v %v %v, want %+v %v", l, replies, c, e, others, wanted)
		}
		c.Ports[r.IntN(len(c.Ports))] = api.Port{Id: n(), Switch: n(), Mac: n(), Ip: n(), Chassis: n()}
		id, f := n(), frame()
		come, e := fabric.Deliver(c, id, f)
		want := refused(conf.Check(c))
		if want.Code == api.OK {
			want = allKnow(c).sent(c, id, f)
		}
		if !sameReply(api.Reply{Code: e, Come: come}, want) {
			t.Fatalf("Deliver(%v, %d, %+v): %+v %v, want %+v", c, id, f, come, e, want)
		}
	}
}

// roomy: a list with spare room, that is filled.
func roomy[T any](l []T, with T) []T {
	return append(slices.Clone(l), slices.Repeat([]T{with}, 5)...)[:len(l)]
}

// What holds everywhere: what is handed in stays, its spare room too; the same call answers the same.
func TestHandedIn(t *testing.T) {
	c := with(base(), api.Acl{Switch: 1, Prio: 1, Port: -1})
	c = api.Conf{Switches: roomy(c.Switches, api.Switch{Id: 77}), Ports: roomy(c.Ports, api.Port{Id: 77}), Acls: roomy(c.Acls, api.Acl{Prio: 77})}
	text := func() string {
		return fmt.Sprint(c, c.Switches[:cap(c.Switches)], c.Ports[:cap(c.Ports)], c.Acls[:cap(c.Acls)])
	}
	kept := text()
	for _, id := range []int{1, 2, 3} {
		one, e := fabric.Deliver(c, id, data(65535, 0, 0))
		other, g := fabric.Deliver(c, id, data(65535, 0, 0))
		if text() != kept || !slices.Equal(one, other) || e != g {
			t.Errorf("Deliver at %d: %s, want %s; %v %v", id, text(), kept, one, other)
		}
	}
	l := roomy(append(all(), drop(30), bind(2, 5), send(1, data(65535, 0, 0)), api.Act{}), api.Act{Kind: 77})
	acts := slices.Clone(l[:cap(l)])
	one, c1, _ := fabric.Run(l)
	other, c2, _ := fabric.Run(l)
	if !slices.Equal(l[:cap(l)], acts) || !slices.EqualFunc(one, other, sameReply) || !sameConf(c1, c2) {
		t.Errorf("Run: %v, want %v; %v %v %v %v", l, acts, one, other, c1, c2)
	}
}

// What holds everywhere: no two lists of one answer share memory, nor those of two answers, their spare room neither.
func TestAnswersAlone(t *testing.T) {
	f := data(65535, 0, 0)
	l := append(all(), send(1, f), send(1, f), send(1, ask(52)))
	one, c1, _ := fabric.Run(l)
	other, c2, _ := fabric.Run(l)
	for i := range one {
		come := one[i].Come[:cap(one[i].Come)]
		for k := range come {
			come[k] = api.Arrived{Port: -9}
		}
		if !slices.EqualFunc(one[i+1:], other[i+1:], sameReply) {
			t.Fatalf("the reply %d shares memory", i)
		}
	}
	clear(one[:cap(one)])
	clear(c1.Switches[:cap(c1.Switches)])
	clear(c1.Ports[:cap(c1.Ports)])
	clear(c1.Acls[:cap(c1.Acls)])
	if replies, c := read(l); !slices.EqualFunc(other, replies, sameReply) || !sameConf(c2, c) {
		t.Errorf("two answers share memory: %v %v", other, c2)
	}
	come, _ := fabric.Deliver(base(), 1, f)
	clear(come[:cap(come)])
	delivers(t, base(), 1, f, at(f, 2, 20, 30))
}
