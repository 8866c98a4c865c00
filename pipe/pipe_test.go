package pipe_test

import (
	"fmt"
	"math"
	"math/rand/v2"
	"slices"
	"strings"
	"testing"

	"dyeworks/api"
	"dyeworks/conf"
	"dyeworks/flow"
	"dyeworks/pipe"
)

// base: what is wanted in most rows. The tenant 1 has three switches, the last one without a Gate, the tenant 2 has one with the same Macs, Ips and Gate.
func base() api.Conf {
	return api.Conf{
		Switches: []api.Switch{{Id: 1, Tenant: 1, Gate: 100}, {Id: 500, Tenant: 1, Gate: 200}, {Id: 3, Tenant: 1}, {Id: 4, Tenant: 2, Gate: 100}},
		Ports: []api.Port{
			{Id: 1, Switch: 1, Mac: 11, Ip: 51, Chassis: 0},
			{Id: 2, Switch: 1, Mac: 12, Ip: 52, Chassis: 3},
			{Id: 3, Switch: 1, Mac: 13, Ip: 53, Chassis: 0},
			{Id: 4, Switch: 1, Mac: 14, Ip: 54, Chassis: -1},
			{Id: 5, Switch: 500, Mac: 11, Ip: 61, Chassis: 5},
			{Id: 6, Switch: 500, Mac: 16, Ip: 62, Chassis: -1},
			{Id: 7, Switch: 3, Mac: 12, Ip: 71, Chassis: 0},
			{Id: 8, Switch: 3, Mac: 18, Ip: 72, Chassis: 3},
			{Id: 999, Switch: 4, Mac: 12, Ip: 52, Chassis: 0},
			{Id: 10, Switch: 4, Mac: 11, Ip: 81, Chassis: 3},
		},
	}
}

// with: what is wanted, and rules.
func with(c api.Conf, rules ...api.Acl) api.Conf {
	c.Acls = append(slices.Clone(c.Acls), rules...)
	return c
}

// find the port with that Id; one with the Id 0, if there is none.
func find(c api.Conf, id int) api.Port {
	for _, p := range c.Ports {
		if p.Id == id {
			return p
		}
	}
	return api.Port{}
}

// findSwitch: the one with that Id.
func findSwitch(c api.Conf, id int) api.Switch {
	for _, s := range c.Switches {
		if s.Id == id {
			return s
		}
	}
	return api.Switch{}
}

// tenantOf a port.
func tenantOf(c api.Conf, id int) int { return findSwitch(c, find(c, id).Switch).Tenant }

// compiled: the flows of a chassis, that may be and are in their places.
func compiled(t *testing.T, c api.Conf, chassis int) []api.Flow {
	t.Helper()
	l, e := pipe.Compile(c, chassis)
	if e != api.OK {
		t.Fatalf("Compile(%v, %d): %v", c, chassis, e)
	}
	if e := flow.Check(l); e != api.OK {
		t.Fatalf("flows of %v at %d: %v", c, chassis, e)
	}
	if !slices.EqualFunc(l, flow.Sort(l), sameFlow) {
		t.Fatalf("flows of %v at %d are not sorted: %v", c, chassis, l)
	}
	return l
}

// sameFlow: are all their numbers the same? A list without elements may be nil or not.
func sameFlow(a, b api.Flow) bool {
	return a.Table == b.Table && a.Prio == b.Prio && slices.Equal(a.Matches, b.Matches) && slices.Equal(a.Does, b.Does)
}

// lead: a frame that is led to a port.
type lead struct {
	to int
	is api.Frame
}

// leadsTo: is what the flows of a chassis send of a frame at a port that which leads say? What goes to a port at the chassis itself may have gone out, or not at all, if it does not come there.
func leadsTo(t *testing.T, c api.Conf, chassis, in int, f api.Frame, leads []lead) {
	t.Helper()
	p, e := pipe.Packet(f, in, 0, 0)
	if e != api.OK {
		t.Fatalf("Packet(%+v, %d): %v", f, in, e)
	}
	sent, e := flow.Run(compiled(t, c, chassis), p)
	if e != api.OK {
		t.Fatalf("Run of %+v: %v", p, e)
	}
	rest := slices.Clone(sent)
	for _, x := range leads {
		q := find(c, x.to)
		here := q.Chassis == chassis
		isIt := func(s api.Sent) bool {
			g, e := pipe.Frame(s.Is)
			way := s.Kind == api.Tunnel && s.N == q.Chassis || here && s.Kind == api.Out && s.N == q.Id && comes(c, chassis, q.Switch, q.Id, x.is)
			return way && e == api.OK && g == x.is && s.Is.F[api.FNet] == q.Switch && s.Is.F[api.FTo] == q.Id && (s.Is.F[api.FIn] == 0 || s.Is.F[api.FIn] == in)
		}
		at := slices.IndexFunc(rest, isIt)
		if at >= 0 {
			rest = slices.Delete(rest, at, at+1)
		} else if !here || comes(c, chassis, q.Switch, q.Id, x.is) {
			t.Fatalf("%+v sent at %d at the chassis %d does not lead to %+v: %+v (%v)", f, in, chassis, x, sent, c)
		}
	}
	if len(rest) > 0 {
		t.Fatalf("%+v sent at %d at the chassis %d leads to more than %+v: %+v (%v)", f, in, chassis, leads, rest, c)
	}
}

// goesOut: does what comes by a tunnel go out to the port, as it is, or is nothing sent?
func goesOut(t *testing.T, c api.Conf, chassis, net, to int, f api.Frame, want bool) {
	t.Helper()
	p, e := pipe.Packet(f, 0, net, to)
	if e != api.OK {
		t.Fatalf("Packet(%+v, 0, %d, %d): %v", f, net, to, e)
	}
	sent, e := flow.Run(compiled(t, c, chassis), p)
	if e != api.OK {
		t.Fatalf("Run of %+v: %v", p, e)
	}
	if want && !slices.Equal(sent, []api.Sent{{Kind: api.Out, N: to, Is: p}}) || !want && len(sent) > 0 {
		t.Fatalf("%+v for %d of %d at the chassis %d: %+v, out: %v (%v)", f, to, net, chassis, sent, want, c)
	}
}

// allowed (P4.2), by going through all rules.
func allowed(c api.Conf, net int, in bool, f api.Frame) bool {
	best, yes := -1, true
	for _, r := range c.Acls {
		src, dst := 1<<(16-r.SrcBits), 1<<(16-r.DstBits)
		if r.Switch != net || r.In != in || f.IpSrc/src != r.Src/src || f.IpDst/dst != r.Dst/dst || r.Port != -1 && r.Port != f.Port {
			continue
		}
		if r.Prio > best {
			best, yes = r.Prio, !r.Deny
		}
	}
	return yes
}

// comes (P4.5).
func comes(c api.Conf, chassis, net, to int, f api.Frame) bool {
	p := find(c, to)
	return p.Id != 0 && p.Chassis == chassis && p.Switch == net && (f.Kind == api.Answer || allowed(c, net, false, f))
}

// leadsOf (P4.3 and P4.4).
func leadsOf(c api.Conf, chassis, in int, f api.Frame) []lead {
	p := find(c, in)
	if p.Id == 0 || p.Chassis != chassis || f.Src != p.Mac || f.IpSrc != p.Ip {
		return nil
	}
	s := findSwitch(c, p.Switch)
	switch {
	case f.Kind == api.Ask:
		return answersOf(c, p, s, f.IpDst)
	case f.Kind != api.Data || !allowed(c, p.Switch, true, f):
		return nil
	}
	var l []lead
	for _, q := range c.Ports {
		if q.Chassis == -1 {
			continue
		}
		if q.Switch == p.Switch && q != p && (f.Dst == 65535 || f.Dst == q.Mac) {
			l = append(l, lead{q.Id, f})
		}
		other := findSwitch(c, q.Switch)
		if f.Dst == 60000+s.Id && s.Gate != 0 && f.Ttl > 1 && q.Ip == f.IpDst && other.Tenant == s.Tenant && other.Gate != 0 {
			g := f
			g.Dst, g.Src, g.Ttl = q.Mac, 60000+q.Switch, f.Ttl-1
			l = append(l, lead{q.Id, g})
		}
	}
	return l
}

func answersOf(c api.Conf, p api.Port, s api.Switch, ip int) []lead {
	answer := func(mac int) []lead {
		return []lead{{p.Id, api.Frame{Dst: p.Mac, Src: mac, Kind: api.Answer, IpSrc: ip, IpDst: p.Ip}}}
	}
	if ip != 0 && ip == s.Gate {
		return answer(60000 + s.Id)
	}
	for _, q := range c.Ports {
		if q.Switch == p.Switch && q.Id != p.Id && q.Ip == ip {
			return answer(q.Mac)
		}
	}
	return nil
}

// data of the port 1 of base.
func data(dst, ipDst, ttl int) api.Frame {
	return api.Frame{Dst: dst, Src: 11, Kind: api.Data, IpSrc: 51, IpDst: ipDst, Ttl: ttl, Port: 80, Body: "hello"}
}

// ask of the port 1 of base.
func ask(ip int) api.Frame {
	return api.Frame{Dst: 7, Src: 11, Kind: api.Ask, IpSrc: 51, IpDst: ip}
}

// noWords: numbers that are no words.
var noWords = []int{math.MinInt, -65536, -1, 65536, 1 << 32, math.MaxInt}

// P4.1: each field at its place, there and back.
func TestPacketAndFrame(t *testing.T) {
	for _, x := range []struct {
		f           api.Frame
		in, net, to int
		p           api.Packet
	}{
		{api.Frame{Dst: 1, Src: 2, Kind: api.Data, IpSrc: 4, IpDst: 5, Ttl: 6, Port: 7, Body: "b"}, 10, 8, 9, api.Packet{F: [10]int{10, 1, 2, 3, 4, 5, 6, 7, 8, 9}, Body: "b"}},
		{api.Frame{Dst: 4, Kind: api.Ask}, 1, 2, 3, api.Packet{F: [10]int{1, 4, 0, 1, 0, 0, 0, 0, 2, 3}}},
		{api.Frame{Src: 65535, Kind: api.Answer, IpDst: 9}, 0, 0, 0, api.Packet{F: [10]int{0, 0, 65535, 2, 0, 9}}},
		{api.Frame{Kind: api.Data, Ttl: 255, Port: 65535, Body: strings.Repeat("\xff", 40)}, 65535, 65535, 65535,
			api.Packet{F: [10]int{65535, 0, 0, 3, 0, 0, 255, 65535, 65535, 65535}, Body: strings.Repeat("\xff", 40)}},
	} {
		if p, e := pipe.Packet(x.f, x.in, x.net, x.to); p != x.p || e != api.OK {
			t.Errorf("Packet(%+v, %d, %d, %d): %+v %v, want %+v", x.f, x.in, x.net, x.to, p, e, x.p)
		}
		if f, e := pipe.Frame(x.p); f != x.f || e != api.OK {
			t.Errorf("Frame(%+v): %+v %v, want %+v", x.p, f, e, x.f)
		}
	}
}

// P4.1: what is refused of a frame, ahead of the other numbers, and of its packet.
func TestRefusedFrames(t *testing.T) {
	long := strings.Repeat("b", 41)
	for _, x := range []struct {
		f api.Frame
		e api.Errno
	}{
		{api.Frame{}, api.ErrKind},
		{api.Frame{Kind: 4, Dst: -1}, api.ErrKind},
		{api.Frame{Kind: math.MinInt, Body: long}, api.ErrKind},
		{api.Frame{Kind: api.Data, Dst: 65536}, api.ErrRange},
		{api.Frame{Kind: api.Data, Src: -1}, api.ErrRange},
		{api.Frame{Kind: api.Data, IpSrc: math.MaxInt}, api.ErrRange},
		{api.Frame{Kind: api.Data, IpDst: math.MinInt}, api.ErrRange},
		{api.Frame{Kind: api.Data, Ttl: 256}, api.ErrRange}, // a word
		{api.Frame{Kind: api.Data, Port: 65536, Body: long}, api.ErrRange},
		{api.Frame{Kind: api.Data, Body: long}, api.ErrSize},
		{api.Frame{Kind: api.Ask, Ttl: 1, Body: long}, api.ErrSize},
		{api.Frame{Kind: api.Ask, Ttl: 1}, api.ErrForm},
		{api.Frame{Kind: api.Answer, Port: 1}, api.ErrForm},
		{api.Frame{Kind: api.Answer, Body: "b"}, api.ErrForm},
	} {
		for _, n := range []int{0, 1, -1, math.MaxInt} {
			if p, e := pipe.Packet(x.f, n, n, n); p != (api.Packet{}) || e != x.e {
				t.Errorf("Packet(%+v) with %d: %+v %v, want %v", x.f, n, p, e, x.e)
			}
			p := api.Packet{F: [10]int{n, x.f.Dst, x.f.Src, x.f.Kind, x.f.IpSrc, x.f.IpDst, x.f.Ttl, x.f.Port, n, n}, Body: x.f.Body}
			if f, e := pipe.Frame(p); f != (api.Frame{}) || e != x.e {
				t.Errorf("Frame(%+v): %+v %v, want %v", p, f, e, x.e)
			}
		}
	}
}

// P4.1: in, net and to must be words for a packet; a frame does not hang on them.
func TestPacketRange(t *testing.T) {
	f := data(12, 52, 9)
	for _, n := range noWords {
		for _, x := range [][3]int{{n, 2, 3}, {1, n, 3}, {1, 2, n}, {n, n, n}} {
			if p, e := pipe.Packet(f, x[0], x[1], x[2]); p != (api.Packet{}) || e != api.ErrRange {
				t.Errorf("Packet with %v: %+v %v", x, p, e)
			}
			p := api.Packet{F: [10]int{x[0], f.Dst, f.Src, f.Kind, f.IpSrc, f.IpDst, f.Ttl, f.Port, x[1], x[2]}, Body: f.Body}
			if g, e := pipe.Frame(p); g != f || e != api.OK {
				t.Errorf("Frame(%+v): %+v %v", p, g, e)
			}
		}
	}
}

// ruled: rules, and whether they allow the frame 51 to 52, with the Port 80.
type ruled struct {
	rules []api.Acl
	allow bool
}

// rulings: rows of rules without a switch and a way.
func rulings() []ruled {
	deny, allow := api.Acl{Port: -1, Deny: true}, api.Acl{Port: -1}
	prio := func(r api.Acl, n int) api.Acl { r.Prio = n; return r }
	port := func(r api.Acl, n int) api.Acl { r.Port = n; return r }
	src := func(r api.Acl, n, bits int) api.Acl { r.Src, r.SrcBits = n, bits; return r }
	dst := func(r api.Acl, n, bits int) api.Acl { r.Dst, r.DstBits = n, bits; return r }
	return []ruled{
		{nil, true},
		{[]api.Acl{allow}, true},
		{[]api.Acl{deny}, false},
		// Which ones fit: 51 is 110011, 52 is 110100.
		{[]api.Acl{port(deny, 80)}, false},
		{[]api.Acl{port(deny, 0)}, true},
		{[]api.Acl{port(deny, 81)}, true},
		{[]api.Acl{port(deny, 65535)}, true},
		{[]api.Acl{src(deny, 51, 16)}, false},
		{[]api.Acl{src(deny, 50, 16)}, true},
		{[]api.Acl{src(deny, 50, 15)}, false},
		{[]api.Acl{src(deny, 52, 15)}, true},
		{[]api.Acl{src(deny, 48, 14)}, false},
		{[]api.Acl{src(deny, 0, 1)}, false},
		{[]api.Acl{src(deny, 32768, 1)}, true},
		{[]api.Acl{src(deny, 32768, 16)}, true},
		{[]api.Acl{src(deny, 0, 16)}, true},
		{[]api.Acl{dst(deny, 52, 16)}, false},
		{[]api.Acl{dst(deny, 51, 16)}, true},
		{[]api.Acl{dst(deny, 52, 15)}, false},
		{[]api.Acl{dst(deny, 50, 15)}, true},
		{[]api.Acl{dst(deny, 0, 10)}, false},
		{[]api.Acl{dst(deny, 32768, 1)}, true},
		{[]api.Acl{src(dst(port(deny, 80), 52, 16), 51, 16)}, false},
		{[]api.Acl{src(dst(port(deny, 81), 52, 16), 51, 16)}, true},
		{[]api.Acl{src(dst(port(deny, 80), 53, 16), 51, 16)}, true},
		{[]api.Acl{src(dst(port(deny, 80), 52, 16), 52, 16)}, true},
		// The greatest Prio tells, wherever it stands.
		{[]api.Acl{prio(deny, 4), prio(allow, 5)}, true},
		{[]api.Acl{prio(allow, 5), prio(deny, 4)}, true},
		{[]api.Acl{prio(deny, 5), prio(allow, 4)}, false},
		{[]api.Acl{prio(allow, 4), prio(deny, 5)}, false},
		{[]api.Acl{prio(allow, 0), prio(deny, 1000)}, false},
		{[]api.Acl{prio(deny, 0), prio(allow, 1000)}, true},
		{[]api.Acl{prio(deny, 999), prio(allow, 1000), prio(deny, 0)}, true},
		{[]api.Acl{prio(deny, 4), prio(port(allow, 81), 5)}, false},
		{[]api.Acl{prio(deny, 4), prio(port(allow, 80), 5)}, true},
		{[]api.Acl{prio(port(deny, 80), 4), prio(allow, 5)}, true},
		// Of the same Prio the first one, whatever places the flows have.
		{[]api.Acl{deny, allow}, false},
		{[]api.Acl{allow, deny}, true},
		{[]api.Acl{port(deny, 80), allow}, false},
		{[]api.Acl{port(allow, 80), deny}, true},
		{[]api.Acl{deny, port(allow, 80)}, false},
		{[]api.Acl{allow, port(deny, 80)}, true},
		{[]api.Acl{src(deny, 51, 16), dst(allow, 52, 16)}, false},
		{[]api.Acl{dst(allow, 52, 16), src(deny, 51, 16)}, true},
		{[]api.Acl{src(allow, 51, 16), dst(deny, 52, 16)}, true},
		{[]api.Acl{dst(deny, 52, 16), src(allow, 51, 16)}, false},
		{[]api.Acl{prio(deny, 1000), prio(allow, 1000)}, false},
		{[]api.Acl{prio(allow, 1000), prio(deny, 1000)}, true},
		{[]api.Acl{prio(allow, 7), prio(deny, 7), prio(allow, 8), prio(deny, 8)}, true},
		{[]api.Acl{prio(deny, 7), prio(allow, 7), prio(deny, 8), prio(allow, 8)}, false},
		{slices.Concat([]api.Acl{deny}, slices.Repeat([]api.Acl{allow}, 39)), false},
		{slices.Concat([]api.Acl{allow}, slices.Repeat([]api.Acl{deny}, 39)), true},
		{slices.Concat(slices.Repeat([]api.Acl{deny}, 39), []api.Acl{prio(allow, 1)}), true},
	}
}

// P4.2: rules of the switch for what comes in, and for what goes out; each way asks its own alone.
func TestRules(t *testing.T) {
	f := data(12, 52, 9)
	for i, x := range rulings() {
		for _, of := range []api.Acl{{Switch: 1, In: true}, {Switch: 1}, {Switch: 3, In: true}, {Switch: 3}, {Switch: 4, In: true}, {Switch: 4}} {
			c := base()
			for _, r := range x.rules {
				r.Switch, r.In = of.Switch, of.In
				c = with(c, r)
			}
			leads := []lead{{2, f}}
			if of.Switch == 1 && of.In && !x.allow {
				leads = nil
			}
			out := of.Switch != 1 || of.In || x.allow
			if allowed(c, 1, true, f) != (leads != nil) || allowed(c, 1, false, f) != out {
				t.Errorf("row %d: the other reading differs", i)
			}
			leadsTo(t, c, 0, 1, f, leads)
			goesOut(t, c, 3, 1, 2, f, out)
		}
	}
}

// P4.3: nothing of what is not sent at a port that is there, at the chassis, with its own addresses.
func TestSentElsewhere(t *testing.T) {
	c := base()
	for _, f := range []api.Frame{data(12, 52, 9), data(65535, 52, 9), data(60001, 61, 9), ask(52), ask(100)} {
		if len(leadsOf(c, 0, 1, f)) == 0 {
			t.Errorf("%+v leads to none", f)
		}
		leadsTo(t, c, 0, 1, f, leadsOf(c, 0, 1, f))
		for chassis := 1; chassis < 6; chassis++ {
			leadsTo(t, c, chassis, 1, f, nil)
		}
		for _, in := range []int{0, 2, 3, 4, 5, 7, 9, 10, 999, 1000, 65535} {
			leadsTo(t, c, 0, in, f, nil)
		}
		for _, n := range []int{0, 1, 10, 12, 13, 50, 52, 53, 60001, 65535} { // neither its Mac nor its Ip
			g, h := f, f
			g.Src, h.IpSrc = n, n
			leadsTo(t, c, 0, 1, g, nil)
			leadsTo(t, c, 0, 1, h, nil)
		}
	}
	// A port that is nowhere sends nothing, at any chassis.
	for chassis := range 6 {
		leadsTo(t, c, chassis, 4, api.Frame{Dst: 11, Src: 14, Kind: api.Data, IpSrc: 54, IpDst: 51}, nil)
	}
}

// P4.3: an Ask is answered where it is sent, for the Gate and for other ports of the switch.
func TestAsk(t *testing.T) {
	answer := func(mac, ip int) []lead {
		return []lead{{1, api.Frame{Dst: 11, Src: mac, Kind: api.Answer, IpSrc: ip, IpDst: 51}}}
	}
	for ip, leads := range map[int][]lead{
		52: answer(12, 52), 53: answer(13, 53),
		54:  answer(14, 54), // that port is nowhere
		100: answer(60001, 100),
		51:  nil, // its own Ip
		0:   nil, 50: nil, 65535: nil,
		61: nil, 71: nil, 200: nil, // of other switches of the tenant
		81: nil, // of another tenant
	} {
		leadsTo(t, base(), 0, 1, ask(ip), leads)
		f := ask(ip)
		f.Dst = 65535
		leadsTo(t, base(), 0, 1, f, leads)
	}
	// Without a Gate 0 is not asked for with success, and the switches at their edges.
	leadsTo(t, base(), 0, 7, api.Frame{Src: 12, Kind: api.Ask, IpSrc: 71, IpDst: 0}, nil)
	leadsTo(t, base(), 0, 7, api.Frame{Src: 12, Kind: api.Ask, IpSrc: 71, IpDst: 72}, []lead{{7, api.Frame{Dst: 12, Src: 18, Kind: api.Answer, IpSrc: 72, IpDst: 71}}})
	leadsTo(t, base(), 5, 5, api.Frame{Src: 11, Kind: api.Ask, IpSrc: 61, IpDst: 200}, []lead{{5, api.Frame{Dst: 11, Src: 60500, Kind: api.Answer, IpSrc: 200, IpDst: 61}}})
	// No rule is asked, neither way.
	all := with(base(), api.Acl{Switch: 1, In: true, Port: -1, Deny: true}, api.Acl{Switch: 1, Port: -1, Deny: true})
	leadsTo(t, all, 0, 1, ask(52), answer(12, 52))
	leadsTo(t, all, 0, 1, ask(100), answer(60001, 100))
}

// P4.3: an Answer that a machine sends leads to none.
func TestAnswerSent(t *testing.T) {
	for _, dst := range []int{11, 12, 13, 60001, 65535} {
		for _, ip := range []int{51, 52, 61, 100} {
			leadsTo(t, base(), 0, 1, api.Frame{Dst: dst, Src: 11, Kind: api.Answer, IpSrc: 51, IpDst: ip}, nil)
		}
	}
}

// P4.4: Data within a switch, as it is, whatever Ip and Ttl it has.
func TestDataWithin(t *testing.T) {
	for _, ttl := range []int{0, 1, 2, 255} {
		for _, ip := range []int{0, 51, 52, 54, 61, 100, 65535} {
			for dst, ports := range map[int][]int{
				12: {2}, 13: {3},
				11: nil, // its own Mac
				14: nil, // that port is nowhere
				16: nil, 18: nil, 0: nil, 15: nil, 60000: nil, 60002: nil, 60004: nil, 60500: nil, 65534: nil,
				65535: {2, 3},
			} {
				var leads []lead
				for _, id := range ports {
					leads = append(leads, lead{id, data(dst, ip, ttl)})
				}
				leadsTo(t, base(), 0, 1, data(dst, ip, ttl), leads)
			}
		}
	}
	// The same Mac at other switches.
	f := api.Frame{Dst: 11, Src: 12, Kind: api.Data, IpSrc: 52, IpDst: 81}
	leadsTo(t, base(), 0, 999, f, []lead{{10, f}})
	leadsTo(t, base(), 3, 2, f, []lead{{1, f}})
	f.IpSrc = 71
	leadsTo(t, base(), 0, 7, f, nil)
}

// P4.4: Data by the router.
func TestDataRouted(t *testing.T) {
	routed := func(to, mac, of, ip, ttl int) []lead {
		f := data(mac, ip, ttl)
		f.Src = 60000 + of
		return []lead{{to, f}}
	}
	for _, x := range []struct {
		dst, ip, ttl int
		leads        []lead
	}{
		{60001, 61, 9, routed(5, 11, 500, 61, 8)},
		{60001, 61, 255, routed(5, 11, 500, 61, 254)},
		{60001, 61, 2, routed(5, 11, 500, 61, 1)},
		{60001, 61, 1, nil},
		{60001, 61, 0, nil},
		{60001, 52, 3, routed(2, 12, 1, 52, 2)}, // a port of the same switch, not the one of the other tenant
		{60001, 51, 3, routed(1, 11, 1, 51, 2)}, // the port itself
		{60001, 54, 9, nil},                     // it is nowhere
		{60001, 62, 9, nil},
		{60001, 71, 9, nil}, // its switch has no Gate
		{60001, 81, 9, nil}, // of another tenant
		{60001, 100, 9, nil},
		{60001, 200, 9, nil},
		{60001, 0, 9, nil},
		{60000, 61, 9, nil},
		{60500, 61, 9, nil}, // the router at another switch
		{60004, 81, 9, nil},
	} {
		leadsTo(t, base(), 0, 1, data(x.dst, x.ip, x.ttl), x.leads)
	}
	// A switch without a Gate has no router, neither to other switches nor within.
	for _, ip := range []int{51, 61, 71, 72} {
		leadsTo(t, base(), 0, 7, api.Frame{Dst: 60003, Src: 12, Kind: api.Data, IpSrc: 71, IpDst: ip, Ttl: 9}, nil)
	}
}

// P4.4: the rules for what comes in, of the switch at which it is sent, and no others, say whether Data leads anywhere.
func TestDataRules(t *testing.T) {
	frames := []api.Frame{data(12, 52, 9), data(65535, 0, 0), data(60001, 61, 9), data(60001, 52, 9)}
	for _, f := range frames {
		none := with(base(), api.Acl{Switch: 1, In: true, Port: 80, Deny: true})
		leadsTo(t, none, 0, 1, f, nil)
		for _, r := range []api.Acl{{Switch: 1, Port: 80, Deny: true}, {Switch: 500, In: true, Port: 80, Deny: true}, {Switch: 500, Port: 80, Deny: true}, {Switch: 4, In: true, Port: 80, Deny: true}} {
			leads := leadsOf(base(), 0, 1, f)
			if len(leads) == 0 {
				t.Errorf("%+v leads to none", f)
			}
			leadsTo(t, with(base(), r), 0, 1, f, leads)
		}
	}
}

// P4.5: what comes by a tunnel comes to a port that is there, at the chassis, and of the switch.
func TestComes(t *testing.T) {
	c := base()
	for _, f := range []api.Frame{data(12, 52, 9), data(0, 0, 0), {Kind: api.Answer}, {Dst: 11, Src: 12, Kind: api.Answer, IpSrc: 52, IpDst: 51}} {
		for chassis := range 6 {
			for _, net := range []int{0, 1, 2, 3, 4, 5, 500, 501, 65535} {
				for _, to := range []int{0, 1, 2, 3, 4, 5, 6, 7, 8, 9, 10, 11, 999, 1000, 65535} {
					p := find(c, to)
					goesOut(t, c, chassis, net, to, f, p.Id != 0 && p.Chassis == chassis && p.Switch == net)
				}
			}
		}
	}
	goesOut(t, c, 0, 1, 1, data(5, 6, 255), true) // no address is looked at
	goesOut(t, c, 0, 4, 999, data(5, 6, 0), true)
}

// P4.5: an Answer comes whatever the rules say; Data that they deny does not.
func TestComesRules(t *testing.T) {
	c := with(base(), api.Acl{Switch: 1, Port: -1, Deny: true}, api.Acl{Switch: 4, In: true, Port: -1, Deny: true}, api.Acl{Switch: 500, Port: 0, Deny: true})
	answer := api.Frame{Dst: 11, Src: 12, Kind: api.Answer, IpSrc: 52, IpDst: 51}
	goesOut(t, c, 0, 1, 1, answer, true)
	goesOut(t, c, 0, 1, 1, data(11, 51, 9), false)
	goesOut(t, c, 0, 1, 3, data(11, 51, 9), false)
	goesOut(t, c, 3, 1, 2, data(11, 51, 9), false)
	goesOut(t, c, 0, 4, 999, data(11, 51, 9), true)
	goesOut(t, c, 5, 500, 5, data(11, 51, 9), true)
	goesOut(t, c, 5, 500, 5, answer, true)
	f := data(11, 51, 9)
	f.Port = 0
	goesOut(t, c, 5, 500, 5, f, false)
}

// P4.6: what is refused, in its order.
func TestCompileRefused(t *testing.T) {
	bad := base()
	bad.Ports[0].Id = 2
	for _, x := range []struct {
		c       api.Conf
		chassis int
		e       api.Errno
	}{
		{api.Conf{}, 6, api.ErrRange},
		{api.Conf{}, -1, api.ErrRange}, // the Chassis of a port that is nowhere is none
		{base(), -1, api.ErrRange},
		{base(), 6, api.ErrRange},
		{base(), 7, api.ErrRange},
		{base(), math.MinInt, api.ErrRange},
		{base(), math.MaxInt, api.ErrRange},
		{bad, 0, api.ErrState},
		{bad, 6, api.ErrState},
		{bad, math.MinInt, api.ErrState},
		{api.Conf{Switches: make([]api.Switch, 1)}, 0, api.ErrState},
		{api.Conf{Ports: base().Ports}, 0, api.ErrState},
		{api.Conf{Acls: []api.Acl{{Switch: 1}}}, -1, api.ErrState},
		{with(base(), api.Acl{Switch: 1, SrcBits: 17}), 0, api.ErrState},
		{with(base(), slices.Repeat([]api.Acl{{Switch: 1}}, 41)...), 0, api.ErrState},
		{with(base(), slices.Repeat([]api.Acl{{Switch: 1}}, 100000)...), 0, api.ErrState},
	} {
		if l, e := pipe.Compile(x.c, x.chassis); len(l) != 0 || e != x.e {
			t.Errorf("Compile(%v, %d): %v %v, want %v", x.c, x.chassis, l, e, x.e)
		}
	}
}

// full: as much as may be wanted: ports of so many switches, all with Gates and of one tenant, and rules of the first one.
func full(switches int, chassis func(i int) int) api.Conf {
	var c api.Conf
	for i := range api.MaxSwitches {
		c.Switches = append(c.Switches, api.Switch{Id: 500 - i, Tenant: 9, Gate: 65535 - i})
	}
	for i := range api.MaxPorts {
		c.Ports = append(c.Ports, api.Port{Id: 999 - i, Switch: 500 - i%switches, Mac: 59999 - i, Ip: 60000 + i, Chassis: chassis(i)})
	}
	for i := range api.MaxAcls {
		c.Acls = append(c.Acls, api.Acl{Switch: 500, Prio: 1000 - i%2, In: i%3 == 0, Port: i, Src: 65535, SrcBits: 16, Deny: true})
	}
	return c
}

// P4.6: flows that may be, at all limits of what may be wanted, and what they send.
func TestFull(t *testing.T) {
	for _, switches := range []int{1, 2, 12} {
		for _, chassis := range []func(i int) int{
			func(int) int { return 5 }, func(i int) int { return i % 6 }, func(i int) int { return min(i, 5) },
		} {
			c := full(switches, chassis)
			if e := conf.Check(c); e != api.OK {
				t.Fatalf("Check(%v): %v", c, e)
			}
			for _, p := range c.Ports {
				f := api.Frame{Dst: 65535, Src: p.Mac, Kind: api.Data, IpSrc: p.Ip, IpDst: 60039, Ttl: 2, Port: 80}
				for _, f.Dst = range []int{65535, 59999 - 39, 60000 + p.Switch} {
					leadsTo(t, c, p.Chassis, p.Id, f, leadsOf(c, p.Chassis, p.Id, f))
				}
				goesOut(t, c, p.Chassis, p.Switch, p.Id, f, true)
			}
		}
	}
	c := full(1, func(i int) int { return i % 6 })
	p := c.Ports[0]
	if n := len(leadsOf(c, 0, p.Id, api.Frame{Dst: 65535, Src: p.Mac, Kind: api.Data, IpSrc: p.Ip})); n != 39 {
		t.Errorf("to %d ports, want 39", n)
	}
}

// P4.6: nothing is sent where nothing is wanted, or nothing is at the chassis.
func TestNothingThere(t *testing.T) {
	for _, c := range []api.Conf{{}, {Switches: base().Switches}, base()} {
		for _, chassis := range []int{1, 2, 4} {
			for _, in := range []int{0, 1, 5, 999} {
				leadsTo(t, c, chassis, in, data(12, 52, 9), nil)
				leadsTo(t, c, chassis, in, ask(52), nil)
			}
			goesOut(t, c, chassis, 1, 1, data(12, 52, 9), false)
			goesOut(t, c, chassis, 0, 0, data(12, 52, 9), false)
		}
	}
}

// sends: is anything sent of a packet, of a frame that may be or not? (Where no rules are.)
func sends(c api.Conf, chassis int, p api.Packet) bool {
	f, e := pipe.Frame(p)
	in, net, to := p.F[api.FIn], p.F[api.FNet], p.F[api.FTo]
	switch {
	case e != api.OK:
		return false
	case in == 0:
		return f.Kind != api.Ask && comes(c, chassis, net, to, f)
	}
	return net == 0 && to == 0 && len(leadsOf(c, chassis, in, f)) > 0
}

// good: packets of which something is sent at the chassis 0 of base.
func good() []api.Packet {
	var l []api.Packet
	for _, f := range []api.Frame{data(12, 52, 9), data(65535, 52, 0), data(60001, 61, 9), ask(52), ask(100)} {
		p, _ := pipe.Packet(f, 1, 0, 0)
		l = append(l, p)
	}
	for _, f := range []api.Frame{data(11, 51, 9), {Dst: 11, Kind: api.Answer}} {
		p, _ := pipe.Packet(f, 0, 1, 1)
		l = append(l, p)
	}
	return l
}

// P4.6: nothing else is sent: of packets that are neither sent at a port nor come by a tunnel, or of no frame that may be.
func TestNothingElse(t *testing.T) {
	flows := compiled(t, base(), 0)
	for _, p := range good() {
		if !sends(base(), 0, p) {
			t.Errorf("%+v should send nothing", p)
		}
		for _, n := range []int{0, 1, 2, 3, 4, 5, 255, 256, 500, 512, 999, 32768, 65535} {
			for field := range p.F {
				q := p
				q.F[field] = n
				if sent, e := flow.Run(flows, q); e != api.OK || sends(base(), 0, q) != (len(sent) > 0) {
					t.Errorf("%+v sends: %+v %v", q, sent, e)
				}
			}
		}
	}
	// An Ask out of a tunnel.
	for _, f := range []api.Frame{ask(52), ask(100), {Kind: api.Ask}} {
		for _, to := range []int{0, 1, 2, 3} {
			goesOut(t, base(), 0, 1, to, f, false)
		}
	}
}

// The document's examples of the whole: from a port at one chassis to one at another.
func TestWhole(t *testing.T) {
	c := api.Conf{
		Switches: []api.Switch{{Id: 1, Tenant: 1}},
		Ports:    []api.Port{{Id: 1, Switch: 1, Mac: 11, Ip: 51, Chassis: 0}, {Id: 2, Switch: 1, Mac: 12, Ip: 52, Chassis: 3}},
	}
	leadsTo(t, c, 0, 1, data(12, 52, 9), []lead{{2, data(12, 52, 9)}})
	goesOut(t, c, 3, 1, 2, data(12, 52, 9), true)
	leadsTo(t, c, 0, 1, ask(52), []lead{{1, api.Frame{Dst: 11, Src: 12, Kind: api.Answer, IpSrc: 52, IpDst: 51}}})
}

// drawnConf: what may be wanted, with numbers that meet one another.
func drawnConf(r *rand.Rand) api.Conf {
	var c api.Conf
	many := 1 + r.IntN(60)
	for range many {
		bits := []int{0, 1, 8, 13, 14, 15, 16}
		word := func(bits int) int { return r.IntN(24) >> (16 - bits) << (16 - bits) }
		a := api.Act{
			Kind:   1 + r.IntN(3),
			Switch: api.Switch{Id: 1 + r.IntN(4), Tenant: 1 + r.IntN(2), Gate: r.IntN(2) * (100 + r.IntN(3))},
			Port:   api.Port{Id: 1 + r.IntN(30), Switch: 1 + r.IntN(4), Mac: 1 + r.IntN(8), Ip: 1 + r.IntN(24), Chassis: r.IntN(4) - 1},
			Acl: api.Acl{Switch: 1 + r.IntN(4), Prio: r.IntN(3), In: r.IntN(2) == 0, SrcBits: bits[r.IntN(7)],
				DstBits: bits[r.IntN(7)], Port: r.IntN(4) - 1, Deny: r.IntN(2) == 0},
		}
		a.Acl.Src, a.Acl.Dst = word(a.Acl.SrcBits), word(a.Acl.DstBits)
		if next, e := conf.Apply(c, a); e == api.OK {
			c = next
		}
	}
	return c
}

// drawnFrame: a frame that may be, mostly with the addresses of ports.
func drawnFrame(r *rand.Rand, c api.Conf) (int, api.Frame) {
	p, q := api.Port{Id: 1 + r.IntN(30)}, api.Port{}
	if len(c.Ports) > 0 {
		p, q = c.Ports[r.IntN(len(c.Ports))], c.Ports[r.IntN(len(c.Ports))]
	}
	f := api.Frame{Dst: q.Mac, Src: p.Mac, Kind: 1 + r.IntN(3), IpSrc: p.Ip, IpDst: q.Ip}
	if r.IntN(2) == 0 {
		f.Kind = api.Data
	}
	switch r.IntN(5) {
	case 0:
		f.Dst = api.Broadcast
	case 1, 2:
		f.Dst = api.RouterBase + p.Switch
	}
	switch r.IntN(20) {
	case 0, 1, 2:
		f.IpDst = 100 + r.IntN(3)
	case 3:
		f.Src = q.Mac
	case 4:
		f.IpSrc = q.Ip
	case 5:
		p.Id = r.IntN(32)
	case 6:
		f.IpDst = 0
	}
	if f.Kind == api.Data {
		f.Ttl, f.Port, f.Body = r.IntN(4), r.IntN(3), "xyz"[:r.IntN(4)]
	}
	return p.Id, f
}

// P4.2 to P4.6: drawn ones, held against a second reading of the chapter.
func TestDrawn(t *testing.T) {
	r := rand.New(rand.NewPCG(1, 2))
	seen := [4]int{}
	for range 3000 {
		c := drawnConf(r)
		for range 6 {
			in, f := drawnFrame(r, c)
			chassis := r.IntN(4)
			if p := find(c, in); r.IntN(4) > 0 && p.Chassis >= 0 {
				chassis = p.Chassis
			}
			leads := leadsOf(c, chassis, in, f)
			seen[min(len(leads), 2)]++
			leadsTo(t, c, chassis, in, f, leads)
			net, to := r.IntN(6), r.IntN(32)
			if p := find(c, to); r.IntN(4) > 0 && p.Chassis >= 0 {
				net, chassis = p.Switch, p.Chassis
			}
			out := f.Kind != api.Ask && comes(c, chassis, net, to, f)
			if out {
				seen[3]++
			}
			goesOut(t, c, chassis, net, to, f, out)
		}
	}
	for i, n := range seen {
		if n < 100 {
			t.Errorf("case %d: seen %d times alone", i, n)
		}
	}
}

// P4.6, and what holds everywhere: of packets with drawn words in some fields nothing else is sent, and nothing to another tenant.
func TestDrawnWords(t *testing.T) {
	r := rand.New(rand.NewPCG(3, 4))
	words := []int{0, 0, 0, 1, 2, 3, 4, 5, 6, 7, 8, 10, 11, 12, 13, 51, 52, 53, 61, 71, 81, 100, 200, 255, 256, 500, 999, 60001, 60004, 60500, 65535}
	some := 0
	var flows [6][]api.Flow
	for i := range flows {
		flows[i] = compiled(t, base(), i)
	}
	for range 100000 {
		in, f := drawnFrame(r, base())
		chassis := max(find(base(), in).Chassis, 0)
		f.Body = "" // no flow can look at it, so an Ask with one is not told apart
		p, _ := pipe.Packet(f, in, 0, 0)
		if q := find(base(), in); r.IntN(3) == 0 {
			p.F[api.FIn], p.F[api.FNet], p.F[api.FTo] = 0, q.Switch, q.Id
		}
		for range r.IntN(4) {
			p.F[r.IntN(api.Fields)] = words[r.IntN(len(words))]
		}
		sent, e := flow.Run(flows[chassis], p)
		if e != api.OK {
			t.Fatalf("Run of %+v: %v", p, e)
		}
		if sends(base(), chassis, p) != (len(sent) > 0) {
			t.Fatalf("%+v at %d sends: %+v", p, chassis, sent)
		}
		some += min(len(sent), 1)
		for _, s := range sent {
			if _, e := pipe.Frame(s.Is); e != api.OK {
				t.Fatalf("%+v at %d sends no frame: %+v", p, chassis, s)
			}
			if at := p.F[api.FIn]; at != 0 && tenantOf(base(), at) != tenantOf(base(), s.Is.F[api.FTo]) {
				t.Fatalf("%+v at %d sends to another tenant: %+v", p, chassis, s)
			}
		}
	}
	if some < 500 {
		t.Errorf("something is sent of %d alone", some)
	}
}

// What holds everywhere: no numbers make Compile panic, and with an error there are no flows.
func TestWild(t *testing.T) {
	r := rand.New(rand.NewPCG(5, 6))
	edges := []int{math.MinInt, -65536, -1, 0, 1, 2, 3, 5, 6, 12, 16, 17, 500, 501, 999, 1000, 1001, 60000, 65535, 65536, math.MaxInt}
	n := func() int { return edges[r.IntN(len(edges))] }
	for range 20000 {
		c := with(base(), api.Acl{Switch: 1, Prio: 5, Port: -1})
		switch r.IntN(4) {
		case 0:
			c.Switches[r.IntN(4)] = api.Switch{Id: n(), Tenant: n(), Gate: n()}
		case 1:
			c.Ports[r.IntN(10)] = api.Port{Id: n(), Switch: n(), Mac: n(), Ip: n(), Chassis: n()}
		case 2:
			c.Acls[0] = api.Acl{Switch: n(), Prio: n(), Src: n(), SrcBits: n(), Dst: n(), DstBits: n(), Port: n()}
		}
		chassis := n()
		want := conf.Check(c)
		if want == api.OK && (chassis < 0 || chassis > 5) {
			want = api.ErrRange
		}
		l, e := pipe.Compile(c, chassis)
		if e != want || e != api.OK && len(l) > 0 || flow.Check(l) != api.OK {
			t.Fatalf("Compile(%v, %d): %v %v, want %v", c, chassis, l, e, want)
		}
	}
}

// roomy: base with rules, and with spare room in each list, that is filled.
func roomy() api.Conf {
	c := with(base(), api.Acl{Switch: 1, Prio: 1, Port: -1}, api.Acl{Switch: 1, Prio: 9, In: true, Port: 80, Deny: true}, api.Acl{Switch: 1, Prio: 10, In: true, Port: 7})
	c.Switches = append(c.Switches, slices.Repeat([]api.Switch{{Id: 77, Tenant: 77, Gate: 77}}, 5)...)[:len(c.Switches)]
	c.Ports = append(c.Ports, slices.Repeat([]api.Port{{Id: 77, Switch: 77}}, 5)...)[:len(c.Ports)]
	c.Acls = append(c.Acls, slices.Repeat([]api.Acl{{Switch: 77, Prio: 77}}, 5)...)[:len(c.Acls)]
	return c
}

// whole: a text of what is wanted, with its spare room.
func whole(c api.Conf) string {
	return fmt.Sprint(len(c.Switches), c.Switches[:cap(c.Switches)], len(c.Ports), c.Ports[:cap(c.Ports)], len(c.Acls), c.Acls[:cap(c.Acls)])
}

// overwrite the lists of the flow at the place, with their spare room.
func overwrite(f api.Flow) {
	m, d := f.Matches[:cap(f.Matches)], f.Does[:cap(f.Does)]
	for i := range m {
		m[i] = api.Match{Field: -9, Mask: -9, Value: -9}
	}
	for i := range d {
		d[i] = api.Does{Kind: -9, A: -9, N: -9}
	}
}

// What holds everywhere: what is handed in stays, its spare room too; the same call answers the same.
func TestHandedIn(t *testing.T) {
	for chassis := -1; chassis < 7; chassis++ {
		c := roomy()
		kept := whole(c)
		one, _ := pipe.Compile(c, chassis)
		other, _ := pipe.Compile(c, chassis)
		if whole(c) != kept || !slices.EqualFunc(one, other, sameFlow) {
			t.Errorf("at %d: %s, want %s; %v %v", chassis, whole(c), kept, one, other)
		}
	}
}

// What holds everywhere: no two lists of one answer share memory, nor those of two answers, their spare room neither.
func TestAnswersAlone(t *testing.T) {
	one, other := compiled(t, roomy(), 0), compiled(t, roomy(), 0)
	want := make([]string, len(one))
	for i, f := range one {
		want[i] = fmt.Sprint(f)
	}
	for i, f := range one {
		overwrite(f)
		for k := i + 1; k < len(one); k++ {
			if fmt.Sprint(one[k]) != want[k] {
				t.Fatalf("flows %d and %d share memory", i, k)
			}
		}
	}
	clear(one[:cap(one)])
	for i, f := range other {
		if fmt.Sprint(f) != want[i] {
			t.Fatalf("two answers share the flow %d", i)
		}
	}
	if !slices.EqualFunc(compiled(t, roomy(), 0), other, sameFlow) {
		t.Errorf("something is kept from call to call")
	}
}
