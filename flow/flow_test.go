package flow_test

import (
	"fmt"
	"math"
	"math/rand/v2"
	"reflect"
	"slices"
	"strings"
	"testing"

	"dyeworks/api"
	"dyeworks/flow"
)

// noWords: numbers that are outside of a word.
var noWords = []int{math.MinInt, -65536, -1, 65536, 65537, 1 << 32, math.MaxInt}

// noFields: numbers that no field has.
var noFields = []int{math.MinInt, -1, 10, 11, 65536, math.MaxInt}

// matching: a flow with one Match.
func matching(field, mask, value int) api.Flow {
	return api.Flow{Matches: []api.Match{{Field: field, Mask: mask, Value: value}}}
}

// doing: a flow of a table that does this.
func doing(table int, l ...api.Does) api.Flow {
	return api.Flow{Table: table, Does: l}
}

// does: one thing, by its numbers.
func does(kind, a, n int) api.Does { return api.Does{Kind: kind, A: a, N: n} }

// mayBe: flows that may be, at all edges.
func mayBe() []api.Flow {
	l := []api.Flow{{}, {Table: 7}, {Prio: 2000}, {Table: 7, Prio: 2000},
		{Matches: []api.Match{}, Does: []api.Does{}},
		{Matches: make([]api.Match, api.MaxMatches)},
		doing(0, slices.Repeat([]api.Does{does(api.Less, 9, 0)}, api.MaxDoes)...),
		doing(0, append(slices.Repeat([]api.Does{does(api.Out, 0, 1)}, api.MaxDoes-1), does(api.Goto, 0, 1))...)}
	for field := range api.Fields {
		l = append(l, matching(field, 0, 0), matching(field, 65535, 0), matching(field, 65535, 65535),
			matching(field, 32768, 32768), matching(field, 0xa5a5, 0x8421),
			doing(0, does(api.Put, field, 0), does(api.Put, field, 65535)),
			doing(0, does(api.Less, field, 0)))
		for from := range api.Fields {
			l = append(l, doing(7, does(api.Copy, field, from)))
		}
	}
	for table := range api.MaxTables {
		for n := table + 1; n < api.MaxTables; n++ {
			l = append(l, doing(table, does(api.Goto, 0, n)))
		}
		l = append(l, doing(table, does(api.Out, 0, 0), does(api.Out, 0, 65535)))
	}
	for chassis := range api.MaxChassis {
		l = append(l, doing(0, does(api.Tunnel, 0, chassis)))
	}
	return l
}

// P2.1: flows that may be, one by one and all at once, up to as many as there may be.
func TestCheckTakes(t *testing.T) {
	for _, f := range mayBe() {
		if e := flow.Check([]api.Flow{f}); e != api.OK {
			t.Errorf("Check(%#v): %v", f, e)
		}
	}
	many := slices.Repeat(mayBe(), api.MaxFlows/len(mayBe())+1)[:api.MaxFlows]
	for _, l := range [][]api.Flow{nil, {}, mayBe(), many} {
		if e := flow.Check(l); e != api.OK {
			t.Errorf("Check of %d flows: %v", len(l), e)
		}
	}
}

type wrongFlow struct {
	f api.Flow
	e api.Errno
}

// wrongSizes: flows that are refused for more than their form, with the error that comes first.
func wrongSizes() []wrongFlow {
	tooMany := make([]api.Match, api.MaxMatches+1)
	tooMuch := slices.Repeat([]api.Does{does(api.Out, 0, 1)}, api.MaxDoes+1)
	l := []wrongFlow{
		{api.Flow{Matches: tooMany}, api.ErrSize},
		{api.Flow{Does: tooMuch}, api.ErrSize},
		{api.Flow{Does: make([]api.Does, api.MaxDoes+1)}, api.ErrSize},
		{api.Flow{Table: -1, Matches: tooMany}, api.ErrSize},
		{api.Flow{Prio: -1, Does: tooMuch}, api.ErrSize},
		{api.Flow{Matches: []api.Match{{Field: -1}}, Does: tooMuch}, api.ErrSize},
		{api.Flow{Table: 8, Matches: []api.Match{{Field: -1}}}, api.ErrRange},
		{api.Flow{Prio: 2001, Does: []api.Does{{}}}, api.ErrRange},
	}
	for _, n := range []int{math.MinInt, -8, -1, 8, 9, 1 << 32, math.MaxInt} {
		l = append(l, wrongFlow{api.Flow{Table: n}, api.ErrRange})
	}
	for _, n := range []int{math.MinInt, -1000, -1, 2001, 2002, 1 << 32, math.MaxInt} {
		l = append(l, wrongFlow{api.Flow{Prio: n}, api.ErrRange})
	}
	return l
}

// wrongMatches: flows with a Match that may not be.
func wrongMatches() []api.Flow {
	l := []api.Flow{matching(0, 0, 1), matching(1, 65534, 1), matching(1, 65534, 65535), matching(9, 3, 4),
		matching(9, 32767, 32768), matching(2, 0x0ff0, 0x1ff0)}
	for _, n := range noFields {
		l = append(l, matching(n, 1, 1))
	}
	for _, n := range noWords {
		l = append(l, matching(1, n, 0), matching(1, 65535, n), matching(1, n, n))
	}
	good := api.Match{Field: 1, Mask: 3, Value: 1}
	return append(l,
		api.Flow{Matches: []api.Match{good, {Field: 10}}},
		api.Flow{Matches: []api.Match{{Field: 10}, good}})
}

// wrongDoes: flows that do what may not be done.
func wrongDoes() []api.Flow {
	var l []api.Flow
	for _, kind := range []int{math.MinInt, -1, 0, 7, 8, 256 + api.Out, math.MaxInt} {
		l = append(l, doing(0, does(kind, 0, 0)), doing(0, does(kind, 0, 1)))
	}
	for _, n := range noFields {
		l = append(l, doing(0, does(api.Put, n, 1)), doing(0, does(api.Copy, n, 1)), doing(0, does(api.Less, n, 0)),
			doing(0, does(api.Copy, 1, n)))
	}
	for _, n := range noWords {
		l = append(l, doing(0, does(api.Put, 1, n)), doing(0, does(api.Out, 0, n)))
	}
	for _, n := range []int{math.MinInt, -1, 1, 9, 65536, math.MaxInt} {
		l = append(l, doing(0, does(api.Goto, n, 1)), doing(0, does(api.Out, n, 1)), doing(0, does(api.Tunnel, n, 1)),
			doing(0, does(api.Less, 1, n)))
	}
	for _, n := range []int{math.MinInt, -1, 6, 7, 65536, math.MaxInt} {
		l = append(l, doing(0, does(api.Tunnel, 0, n)))
	}
	for table := range api.MaxTables {
		for _, n := range []int{math.MinInt, -1, 0, table - 1, table, 8, 9, math.MaxInt} {
			l = append(l, doing(table, does(api.Goto, 0, n)))
		}
	}
	good, on := does(api.Out, 0, 1), does(api.Goto, 0, 1)
	return append(l,
		doing(0, on, good),
		doing(0, on, on),
		doing(0, on, does(api.Goto, 0, 2)),
		doing(0, good, on, good),
		doing(0, good, does(0, 0, 0)),
		doing(0, does(0, 0, 0), good))
}

// wrongFlows: flows that may not be.
func wrongFlows() []wrongFlow {
	l := wrongSizes()
	for _, f := range slices.Concat(wrongMatches(), wrongDoes()) {
		l = append(l, wrongFlow{f, api.ErrForm})
	}
	return l
}

// P2.1 and P2.2: a flow that may not be is refused, wherever it stands, ahead of what the packet is.
func TestRefusedFlows(t *testing.T) {
	wrong := api.Packet{F: [api.Fields]int{-1}}
	for _, c := range wrongFlows() {
		for _, l := range [][]api.Flow{{c.f}, append(mayBe(), c.f), append([]api.Flow{c.f}, mayBe()...)} {
			if e := flow.Check(l); e != c.e {
				t.Errorf("Check(%#v) of %d flows: %v, want %v", c.f, len(l), e, c.e)
			}
			for _, p := range []api.Packet{{}, wrong} {
				if s, e := flow.Run(l, p); len(s) != 0 || e != c.e {
					t.Errorf("Run(%#v) of %d flows: %v %v, want %v", c.f, len(l), s, e, c.e)
				}
			}
		}
	}
}

// P2.1: how many there are comes first, then flow by flow.
func TestCheckOrder(t *testing.T) {
	form, bounds := matching(-1, 0, 0), api.Flow{Table: 8}
	size := api.Flow{Matches: make([]api.Match, api.MaxMatches+1)}
	for i, c := range []struct {
		l []api.Flow
		e api.Errno
	}{
		{make([]api.Flow, api.MaxFlows+1), api.ErrSize},
		{append([]api.Flow{form}, make([]api.Flow, api.MaxFlows)...), api.ErrSize},
		{append([]api.Flow{bounds}, make([]api.Flow, api.MaxFlows)...), api.ErrSize},
		{append([]api.Flow{form}, make([]api.Flow, api.MaxFlows-1)...), api.ErrForm},
		{append(make([]api.Flow, api.MaxFlows-1), bounds), api.ErrRange},
		{[]api.Flow{form, bounds, size}, api.ErrForm},
		{[]api.Flow{bounds, size, form}, api.ErrRange},
		{[]api.Flow{{}, size, form, bounds}, api.ErrSize},
	} {
		if e := flow.Check(c.l); e != c.e {
			t.Errorf("row %d: %v, want %v", i, e, c.e)
		}
		if s, e := flow.Run(c.l, api.Packet{Body: strings.Repeat("b", 41)}); len(s) != 0 || e != c.e {
			t.Errorf("row %d, Run: %v %v, want %v", i, s, e, c.e)
		}
	}
}

// P2.2: packets that may be, and may not.
func TestCheckPacket(t *testing.T) {
	type row struct {
		p api.Packet
		e api.Errno
	}
	body := func(n int) string { return strings.Repeat("\xff", n) }
	l := []row{{api.Packet{}, api.OK}, {api.Packet{Body: body(40)}, api.OK}, {api.Packet{Body: body(41)}, api.ErrSize},
		{api.Packet{Body: body(100000)}, api.ErrSize}}
	for field := range api.Fields {
		var p api.Packet
		for _, n := range []int{1, 255, 256, 65535} {
			p.F[field] = n
			l = append(l, row{p, api.OK}, row{api.Packet{F: p.F, Body: body(40)}, api.OK},
				row{api.Packet{F: p.F, Body: body(41)}, api.ErrSize})
		}
		for _, n := range noWords {
			p.F[field] = n
			l = append(l, row{p, api.ErrRange}, row{api.Packet{F: p.F, Body: body(41)}, api.ErrRange})
		}
	}
	sends := []api.Flow{doing(0, does(api.Out, 0, 1))}
	for _, c := range l {
		if e := flow.CheckPacket(c.p); e != c.e {
			t.Errorf("CheckPacket(%#v): %v, want %v", c.p, e, c.e)
		}
		s, e := flow.Run(sends, c.p)
		if e != c.e || len(s) != 0 && e != api.OK || len(s) != 1 && e == api.OK {
			t.Errorf("Run of %#v: %v %v, want %v", c.p, s, e, c.e)
		}
	}
}

// start: the packet of the rows of TestRun.
var start = api.Packet{F: [api.Fields]int{10, 11, 12, 13, 14, 15, 16, 17, 18, 19}, Body: "body"}

// set: start with other fields; field and value in turn.
func set(l ...int) api.Packet {
	p := start
	for i := 0; i < len(l); i += 2 {
		p.F[l[i]] = l[i+1]
	}
	return p
}

func out(n int) api.Does { return does(api.Out, 0, n) }

func goes(n int) api.Does { return does(api.Goto, 0, n) }

// P2.2: what is sent, written out.
func TestRun(t *testing.T) {
	for i, c := range []struct {
		l    []api.Flow
		want []api.Sent
	}{
		{nil, nil},
		{[]api.Flow{{}}, nil},
		{[]api.Flow{doing(0, out(3))}, []api.Sent{{Kind: api.Out, N: 3, Is: start}}},
		{[]api.Flow{doing(1, out(3))}, nil},
		{[]api.Flow{doing(0, does(api.Tunnel, 0, 5), out(0))},
			[]api.Sent{{Kind: api.Tunnel, N: 5, Is: start}, {Kind: api.Out, N: 0, Is: start}}},
		{[]api.Flow{doing(0, out(7), out(7))},
			[]api.Sent{{Kind: api.Out, N: 7, Is: start}, {Kind: api.Out, N: 7, Is: start}}},
		// Each is sent as it is then.
		{[]api.Flow{doing(0, out(1), does(api.Put, 9, 5), out(2), does(api.Copy, 0, 9), out(3), does(api.Less, 1, 0), out(4))},
			[]api.Sent{{Kind: api.Out, N: 1, Is: start}, {Kind: api.Out, N: 2, Is: set(9, 5)},
				{Kind: api.Out, N: 3, Is: set(9, 5, 0, 5)}, {Kind: api.Out, N: 4, Is: set(9, 5, 0, 5, 1, 10)}}},
		{[]api.Flow{doing(0, does(api.Copy, 1, 2), does(api.Put, 2, 0), does(api.Copy, 3, 3), out(1))},
			[]api.Sent{{Kind: api.Out, N: 1, Is: set(1, 12, 2, 0)}}},
		{[]api.Flow{doing(0, does(api.Put, 4, 2), does(api.Less, 4, 0), out(1), does(api.Less, 4, 0), out(2), does(api.Less, 4, 0), out(3))},
			[]api.Sent{{Kind: api.Out, N: 1, Is: set(4, 1)}, {Kind: api.Out, N: 2, Is: set(4, 0)}, {Kind: api.Out, N: 3, Is: set(4, 0)}}},
		{[]api.Flow{doing(0, does(api.Put, 4, 65535), does(api.Less, 4, 0), out(1))},
			[]api.Sent{{Kind: api.Out, N: 1, Is: set(4, 65534)}}},
		// What is changed behind all that is sent changes nothing.
		{[]api.Flow{doing(0, out(1), does(api.Put, 0, 5))}, []api.Sent{{Kind: api.Out, N: 1, Is: start}}},
		// Goto: on with the packet as it is then, to the table that is named alone.
		{[]api.Flow{doing(2, out(2)), doing(1, out(1)), doing(0, does(api.Put, 0, 1), goes(2))},
			[]api.Sent{{Kind: api.Out, N: 2, Is: set(0, 1)}}},
		{[]api.Flow{doing(0, out(9), goes(7)), doing(7, out(8))},
			[]api.Sent{{Kind: api.Out, N: 9, Is: start}, {Kind: api.Out, N: 8, Is: start}}},
		{[]api.Flow{doing(0, out(9), goes(3)), doing(4, out(8)), doing(2, out(7))}, []api.Sent{{Kind: api.Out, N: 9, Is: start}}},
		{[]api.Flow{doing(0, goes(1)), doing(1, out(1), goes(3)), doing(2, out(2)), doing(3, does(api.Less, 6, 0), out(3))},
			[]api.Sent{{Kind: api.Out, N: 1, Is: start}, {Kind: api.Out, N: 3, Is: set(6, 15)}}},
		// A flow of a later table fits, or not, by what was changed.
		{[]api.Flow{doing(0, does(api.Put, 8, 4), goes(1)),
			{Table: 1, Matches: []api.Match{{Field: 8, Mask: 65535, Value: 18}}, Does: []api.Does{out(1)}},
			{Table: 1, Matches: []api.Match{{Field: 8, Mask: 65535, Value: 4}}, Does: []api.Does{out(2)}}},
			[]api.Sent{{Kind: api.Out, N: 2, Is: set(8, 4)}}},
	} {
		got, e := flow.Run(c.l, start)
		if !slices.Equal(got, c.want) || e != api.OK {
			t.Errorf("row %d: %v %v, want %v", i, got, e, c.want)
		}
	}
}

// P2.2: the greatest Prio first, then the first one of the list; one flow alone does what it does.
func TestRunPicks(t *testing.T) {
	is := func(prio, n int, l ...api.Match) api.Flow {
		return api.Flow{Prio: prio, Matches: l, Does: []api.Does{out(n)}}
	}
	not := api.Match{Field: 0, Mask: 65535, Value: 11}
	yes := api.Match{Field: 0, Mask: 65535, Value: 10}
	for i, c := range []struct {
		l    []api.Flow
		want int
	}{
		{[]api.Flow{is(0, 1), is(0, 2)}, 1},
		{[]api.Flow{is(5, 1), is(5, 2), is(5, 3)}, 1},
		{[]api.Flow{is(0, 1), is(1, 2)}, 2},
		{[]api.Flow{is(1, 1), is(0, 2)}, 1},
		{[]api.Flow{is(0, 1), is(2000, 2), is(1999, 3), is(2000, 4)}, 2},
		{[]api.Flow{is(9, 1, not), is(0, 2), is(0, 3)}, 2},
		{[]api.Flow{is(9, 1, yes), is(9, 2)}, 1},
		{[]api.Flow{is(9, 1), is(9, 2, yes)}, 1},
		{[]api.Flow{is(9, 1, yes, not), is(3, 2, not, yes), is(2, 3, yes, yes)}, 3},
		{[]api.Flow{{Table: 1, Prio: 9, Does: []api.Does{out(1)}}, is(3, 2)}, 2},
	} {
		got, e := flow.Run(c.l, start)
		if len(got) != 1 || got[0] != (api.Sent{Kind: api.Out, N: c.want, Is: start}) || e != api.OK {
			t.Errorf("row %d: %v %v, want %d", i, got, e, c.want)
		}
	}
	// The best one sends nothing: the others are not asked.
	if got, e := flow.Run([]api.Flow{is(0, 1), {Prio: 1}}, start); len(got) != 0 || e != api.OK {
		t.Errorf("%v %v, want nothing", got, e)
	}
}

// P2.2: a Match asks the bits of its Mask, of its own field.
func TestRunFits(t *testing.T) {
	for field := range api.Fields {
		for _, mask := range []int{0, 1, 2, 0x00ff, 0xff00, 0x8000, 0xa5a5, 0xffff} {
			for _, is := range []int{0, 1, 2, 3, 0x1234, 0x7fff, 0x8000, 0xffff} {
				for _, asked := range []int{0, 1, 2, 3, 0x1234, 0x7fff, 0x8000, 0xffff} {
					f := matching(field, mask, asked&mask)
					f.Does = []api.Does{out(1)}
					p := set(field, is)
					got, e := flow.Run([]api.Flow{f}, p)
					if (len(got) == 1) != ((is^asked)&mask == 0) || e != api.OK {
						t.Fatalf("Run(%v, %v): %v %v", f, p, got, e)
					}
				}
			}
		}
	}
}

// P2.2: as many as may be sent at all.
func TestRunLongest(t *testing.T) {
	var l []api.Flow
	for table := range api.MaxTables - 1 {
		l = append(l, doing(table, append(slices.Repeat([]api.Does{out(table)}, api.MaxDoes-1), goes(table+1))...))
	}
	l = append(l, doing(7, slices.Repeat([]api.Does{out(7)}, api.MaxDoes)...))
	slices.Reverse(l)
	got, e := flow.Run(l, start)
	if len(got) != 7*99+100 || e != api.OK {
		t.Fatalf("%d are sent, %v", len(got), e)
	}
	if !slices.IsSortedFunc(got, func(x, y api.Sent) int { return x.N - y.N }) {
		t.Errorf("not table by table: %v", got)
	}
}

// inPlaces: flows in their places, of which each differs from the next one in what comes first.
func inPlaces() []api.Flow {
	m, d := func(l ...api.Match) []api.Match { return l }, func(l ...api.Does) []api.Does { return l }
	return []api.Flow{
		{Table: math.MinInt},
		{Table: -1, Prio: math.MinInt},
		{Table: 0, Prio: math.MaxInt, Matches: m(api.Match{Field: 1}), Does: d(api.Does{})},
		{Table: 0, Prio: 2},
		{Table: 0, Prio: 2, Does: d(api.Does{Kind: 9, A: 9, N: 9})},
		{Table: 0, Prio: 2, Does: d(api.Does{}, api.Does{})},
		{Table: 0, Prio: 2, Matches: m(api.Match{Field: 9, Mask: 9, Value: 9})},
		{Table: 0, Prio: 2, Matches: m(api.Match{}), Does: d(api.Does{Kind: 9})},
		{Table: 0, Prio: 2, Matches: m(api.Match{}, api.Match{})},
		{Table: 0, Prio: 1},
		{Table: 0, Prio: 0, Matches: m(api.Match{Field: math.MinInt})},
		{Table: 0, Prio: 0, Matches: m(api.Match{Field: 1, Mask: 7, Value: 7})},
		{Table: 0, Prio: 0, Matches: m(api.Match{Field: 2, Mask: 3, Value: 3})},
		{Table: 0, Prio: 0, Matches: m(api.Match{Field: 2, Mask: 7, Value: -1})},
		{Table: 0, Prio: 0, Matches: m(api.Match{Field: 2, Mask: 7, Value: 4})},
		{Table: 0, Prio: 0, Matches: m(api.Match{Field: math.MaxInt})},
		{Table: 0, Prio: 0, Matches: m(api.Match{Field: 1}, api.Match{Field: 3})},
		{Table: 0, Prio: 0, Matches: m(api.Match{Field: 1}, api.Match{Field: 3, Value: 1})},
		{Table: 0, Prio: 0, Matches: m(api.Match{Field: 2}, api.Match{Field: 0})},
		{Table: 0, Prio: -1},
		{Table: 0, Prio: math.MinInt},
		{Table: 1, Does: d(api.Does{Kind: 1, A: 9, N: 9})},
		{Table: 1, Does: d(api.Does{Kind: 2, A: 1, N: 9})},
		{Table: 1, Does: d(api.Does{Kind: 2, A: 3, N: math.MinInt})},
		{Table: 1, Does: d(api.Does{Kind: 2, A: 3, N: math.MaxInt})},
		{Table: 1, Does: d(api.Does{Kind: 1}, api.Does{Kind: 5})},
		{Table: 1, Does: d(api.Does{Kind: 1}, api.Does{Kind: 5, N: 1})},
		{Table: 1, Does: d(api.Does{Kind: 2}, api.Does{Kind: 1})},
		// The Matches come first, then the Does.
		{Table: 1, Matches: m(api.Match{Field: 1}), Does: d(api.Does{Kind: 5})},
		{Table: 1, Matches: m(api.Match{Field: 1}), Does: d(api.Does{Kind: 6})},
		{Table: 1, Matches: m(api.Match{Field: 2}), Does: d(api.Does{Kind: 1})},
		{Table: 2, Prio: 9},
		{Table: 10},
		{Table: math.MaxInt},
	}
}

// same: flows with the same numbers; a list without elements may be nil or not.
func same(a, b []api.Flow) bool {
	return slices.EqualFunc(a, b, func(x, y api.Flow) bool {
		return x.Table == y.Table && x.Prio == y.Prio && slices.Equal(x.Matches, y.Matches) && slices.Equal(x.Does, y.Does)
	})
}

// P2.3: whatever order they come in, they get their places.
func TestSort(t *testing.T) {
	r := rand.New(rand.NewPCG(1, 2))
	want := inPlaces()
	for i := range want {
		for j := range want {
			l := []api.Flow{want[j], want[i]}
			pair := []api.Flow{want[min(i, j)], want[max(i, j)]}
			if i == j {
				pair = pair[:1]
			}
			if got := flow.Sort(l); !same(got, pair) {
				t.Errorf("Sort(%v): %v", l, got)
			}
		}
	}
	for range 50 {
		l := append(inPlaces(), inPlaces()[:r.IntN(len(want))]...)
		r.Shuffle(len(l), func(i, j int) { l[i], l[j] = l[j], l[i] })
		if got := flow.Sort(l); !same(got, want) {
			t.Fatalf("Sort(%v): %v, want %v", l, got, want)
		}
	}
}

// P2.3: each that is there once; nothing is checked.
func TestSortOnce(t *testing.T) {
	empty := api.Flow{Matches: []api.Match{}, Does: []api.Does{}}
	one := doing(3, does(api.Goto, 0, 0))
	for i, c := range []struct{ l, want []api.Flow }{
		{nil, nil},
		{[]api.Flow{}, nil},
		{[]api.Flow{{}, {}, {}}, []api.Flow{{}}},
		{[]api.Flow{empty, {}, empty}, []api.Flow{{}}},
		{[]api.Flow{one, {}, one, {}}, []api.Flow{{}, one}},
		{make([]api.Flow, api.MaxFlows+1), []api.Flow{{}}},
		// A Match twice is another flow than one with it once.
		{[]api.Flow{{Matches: make([]api.Match, 20)}, {Matches: make([]api.Match, 19)}},
			[]api.Flow{{Matches: make([]api.Match, 19)}, {Matches: make([]api.Match, 20)}}},
	} {
		if got := flow.Sort(c.l); !same(got, c.want) {
			t.Errorf("row %d: %v, want %v", i, got, c.want)
		}
	}
}

// P2.4: written out.
func TestDiffPatch(t *testing.T) {
	a, b, c, d := api.Flow{Prio: 3}, api.Flow{Prio: 2}, doing(0, out(1)), matching(1, 3, 2)
	empty := api.Flow{Prio: 3, Matches: []api.Match{}, Does: []api.Does{}}
	type list = []api.Flow
	for i, x := range []struct{ are, wanted, come, gone list }{
		{nil, nil, nil, nil},
		{list{a}, nil, nil, list{a}},
		{nil, list{a}, list{a}, nil},
		{list{a}, list{a}, nil, nil},
		{list{a}, list{empty}, nil, nil},
		{list{a, b}, list{b, a, b}, nil, nil},
		{list{a, a, a}, list{a}, nil, nil},
		{list{c, b, a}, list{d, b}, list{d}, list{a, c}},
		{list{d, c, d}, list{b, a, b, a}, list{a, b}, list{c, d}},
		{list{{Table: -1}}, list{{Table: 9}, {Table: 8}}, list{{Table: 8}, {Table: 9}}, list{{Table: -1}}},
		{make(list, api.MaxFlows+1), nil, nil, list{{}}},
	} {
		come, gone := flow.Diff(x.are, x.wanted)
		if !same(come, x.come) || !same(gone, x.gone) {
			t.Errorf("row %d: %v %v, want %v %v", i, come, gone, x.come, x.gone)
		}
		if got := flow.Patch(x.are, come, gone); !same(got, flow.Sort(x.wanted)) {
			t.Errorf("row %d, Patch: %v, want %v", i, got, x.wanted)
		}
	}
	for i, x := range []struct{ l, come, gone, want list }{
		{nil, nil, nil, nil},
		{nil, list{d, a}, nil, list{a, d}},
		{list{d, b, d}, nil, nil, list{b, d}},
		{list{a, b, a}, nil, list{a}, list{b}},
		{list{a}, nil, list{empty}, nil},
		{list{b}, list{a}, list{a}, list{a, b}}, // it goes, and comes
		{list{a}, list{a}, list{a}, list{a}},
		{list{a}, list{a, a}, nil, list{a}},
		{list{a}, nil, list{b, c}, list{a}}, // what is not there goes
		{list{c, d, b}, list{a, d}, list{d, c}, list{a, b, d}},
		{list{{Table: 9}}, list{{Table: -1}}, nil, list{{Table: -1}, {Table: 9}}},
		{list{a}, make(list, api.MaxFlows+1), list{a, a}, list{{}}},
	} {
		if got := flow.Patch(x.l, x.come, x.gone); !same(got, x.want) {
			t.Errorf("row %d: %v, want %v", i, got, x.want)
		}
	}
}

// drawn: some flows, with numbers from some.
func drawn(r *rand.Rand, most int, some []int) []api.Flow {
	n := func() int { return some[r.IntN(len(some))] }
	l := make([]api.Flow, r.IntN(most+1))
	for i := range l {
		l[i] = api.Flow{Table: n(), Prio: n()}
		for range r.IntN(3) {
			l[i].Matches = append(l[i].Matches, api.Match{Field: n(), Mask: n(), Value: n()})
		}
		for range r.IntN(3) {
			l[i].Does = append(l[i].Does, does(n(), n(), n()))
		}
	}
	return l
}

// key: all that the place of a flow hangs on, with the lesser number first.
func key(f api.Flow) []int {
	k := []int{f.Table, ^f.Prio, len(f.Matches), len(f.Does)}
	for _, m := range f.Matches {
		k = append(k, m.Field, m.Mask, m.Value)
	}
	for _, d := range f.Does {
		k = append(k, d.Kind, d.A, d.N)
	}
	return k
}

func has(l []api.Flow, f api.Flow) bool {
	return slices.ContainsFunc(l, func(x api.Flow) bool { return slices.Equal(key(x), key(f)) })
}

// rising: are they in their places, each once?
func rising(l []api.Flow) bool {
	for i := 1; i < len(l); i++ {
		if slices.Compare(key(l[i-1]), key(l[i])) >= 0 {
			return false
		}
	}
	return true
}

// P2.3 and P2.4: whatever the flows, all is there that should be, and nothing else, in order.
func TestDrawn(t *testing.T) {
	r := rand.New(rand.NewPCG(3, 4))
	wild := []int{0, 1, 2, -1, 65535, 65536, math.MinInt, math.MaxInt}
	for round := range 3000 {
		some := wild[:1+round%len(wild)]
		a, b, c := drawn(r, 8, some), drawn(r, 8, some), drawn(r, 8, some)
		sorted, patched := flow.Sort(a), flow.Patch(a, b, c)
		come, gone := flow.Diff(a, b)
		if !rising(sorted) || !rising(patched) || !rising(come) || !rising(gone) {
			t.Fatalf("%v %v %v: not in order", a, b, c)
		}
		for _, f := range slices.Concat(a, b, c, sorted, patched, come, gone) {
			inA, inB, inC := has(a, f), has(b, f), has(c, f)
			if has(sorted, f) != inA || has(patched, f) != (inB || inA && !inC) ||
				has(come, f) != (inB && !inA) || has(gone, f) != (inA && !inB) {
				t.Fatalf("%v %v %v: %v", a, b, c, f)
			}
		}
	}
}

// follow: what Run tells, worked out from one table on, by flows that are put in order ahead.
func follow(l []api.Flow, table int, p api.Packet) []api.Sent {
	l = slices.Clone(l)
	slices.SortStableFunc(l, func(x, y api.Flow) int { return y.Prio - x.Prio })
	i := slices.IndexFunc(l, func(f api.Flow) bool {
		return f.Table == table && !slices.ContainsFunc(f.Matches, func(m api.Match) bool { return (p.F[m.Field]^m.Value)&m.Mask != 0 })
	})
	var sent []api.Sent
	if i < 0 {
		return sent
	}
	for _, d := range l[i].Does {
		switch d.Kind {
		case api.Put:
			p.F[d.A] = d.N
		case api.Copy:
			p.F[d.A] = p.F[d.N]
		case api.Less:
			if p.F[d.A] > 0 {
				p.F[d.A]--
			}
		case api.Goto:
			return append(sent, follow(l, d.N, p)...)
		default:
			sent = append(sent, api.Sent{Kind: d.Kind, N: d.N, Is: p})
		}
	}
	return sent
}

// drawnFlow: one that may be, or, now and then, goes on to no table.
func drawnFlow(r *rand.Rand) api.Flow {
	f := api.Flow{Table: r.IntN(3), Prio: r.IntN(3)}
	for range r.IntN(3) {
		m := api.Match{Field: r.IntN(api.Fields), Mask: r.IntN(4)}
		m.Value = r.IntN(4) & m.Mask
		f.Matches = append(f.Matches, m)
	}
	for range r.IntN(4) {
		field := r.IntN(api.Fields)
		f.Does = append(f.Does, []api.Does{does(api.Put, field, r.IntN(4)), does(api.Copy, field, r.IntN(api.Fields)),
			does(api.Less, field, 0), out(r.IntN(9)), does(api.Tunnel, 0, r.IntN(api.MaxChassis))}[r.IntN(5)])
	}
	if r.IntN(2) == 0 {
		f.Does = append(f.Does, goes(f.Table+1+r.IntN(6)))
	}
	return f
}

// P2.2: drawn flows and packets; what may not be is refused as the checks say.
func TestRunDrawn(t *testing.T) {
	r := rand.New(rand.NewPCG(5, 6))
	taken := 0
	for range 20000 {
		var l []api.Flow
		for range r.IntN(20) {
			l = append(l, drawnFlow(r))
		}
		var p api.Packet
		for i := range p.F {
			p.F[i] = r.IntN(3)
		}
		p.F[r.IntN(api.Fields)] = []int{-1, 65536, 0, 1, 2, 65535}[r.IntN(6)]
		want, refused := []api.Sent(nil), flow.Check(l)
		if refused == api.OK {
			refused = flow.CheckPacket(p)
		}
		if refused == api.OK {
			want = follow(l, 0, p)
		}
		got, e := flow.Run(l, p)
		if !slices.Equal(got, want) || e != refused {
			t.Fatalf("Run(%v, %v): %v %v, want %v %v", l, p, got, e, want, refused)
		}
		if len(got) > 0 {
			taken++
		}
	}
	if taken < 2000 {
		t.Errorf("%d alone sent anything", taken)
	}
}

// What holds everywhere: no numbers make a call panic, and with an error nothing is sent.
func TestWild(t *testing.T) {
	r := rand.New(rand.NewPCG(7, 8))
	wild := []int{0, 1, 2, 3, 4, 5, 6, 7, 8, 9, 10, -1, 65535, 65536, math.MinInt, math.MaxInt}
	for range 20000 {
		l := drawn(r, 2, wild)
		p := api.Packet{Body: strings.Repeat("\x80", r.IntN(43))}
		for i := range p.F {
			p.F[i] = wild[r.IntN(len(wild))]
		}
		if got, e := flow.Run(l, p); e != api.OK && len(got) != 0 {
			t.Fatalf("Run(%v, %v): %v %v", l, p, got, e)
		}
	}
}

// roomy: flows with spare room in each of their lists, and the room filled.
func roomy() []api.Flow {
	l := make([]api.Flow, 0, 9)
	for i := range cap(l) {
		m, d := make([]api.Match, 6), make([]api.Does, 6)
		for j := range m {
			m[j] = api.Match{Field: (9 - i - j + 10) % 10, Mask: 7, Value: j}
			d[j] = does(api.Put, (9-i-j+10)%10, j)
		}
		l = append(l, api.Flow{Table: (9 - i) % 8, Prio: i, Matches: m[:i%3], Does: d[:i%4]})
	}
	return l[:5]
}

// whole: a text of flows with their spare room, and that of their lists.
func whole(l []api.Flow) string {
	var b strings.Builder
	for _, f := range l[:cap(l)] {
		fmt.Fprintln(&b, f.Table, f.Prio, len(f.Matches), f.Matches[:cap(f.Matches)], len(f.Does), f.Does[:cap(f.Does)])
	}
	return b.String()
}

// spoil all that a list of flows has, spare room too.
func spoil(l []api.Flow) {
	for i, f := range l[:cap(l)] {
		for j := range f.Matches[:cap(f.Matches)] {
			f.Matches[:cap(f.Matches)][j] = api.Match{Field: -77, Mask: -77, Value: -77}
		}
		for j := range f.Does[:cap(f.Does)] {
			f.Does[:cap(f.Does)][j] = does(-77, -77, -77)
		}
		l[:cap(l)][i] = api.Flow{Table: -77, Prio: -77}
	}
}

// calls: those that answer flows, each of them with all its answers.
func calls() []func(a, b, c []api.Flow) [][]api.Flow {
	type lists = [][]api.Flow
	return []func(a, b, c []api.Flow) [][]api.Flow{
		func(a, b, c []api.Flow) lists { return lists{flow.Sort(a)} },
		func(a, b, c []api.Flow) lists { x, y := flow.Diff(a, b); return lists{x, y} },
		func(a, b, c []api.Flow) lists { return lists{flow.Patch(a, b, c)} },
	}
}

// What holds everywhere: flows that are handed in stay, their spare room too, and are not kept.
func TestHandedIn(t *testing.T) {
	for i, call := range calls() {
		l := [][]api.Flow{roomy(), roomy(), roomy()}
		l[1], l[2] = l[1][2:], l[2][:2]
		var kept []string
		for _, x := range l {
			kept = append(kept, whole(x))
		}
		got := call(l[0], l[1], l[2])
		flow.Check(l[0])
		flow.Run(l[0], start)
		for j, x := range l {
			if whole(x) != kept[j] {
				t.Errorf("call %d: list %d is\n%snot\n%s", i, j, whole(x), kept[j])
			}
		}
		want := fmt.Sprint(got)
		for _, x := range l {
			spoil(x)
		}
		if fmt.Sprint(got) != want {
			t.Errorf("call %d: %v, was %s", i, got, want)
		}
	}
	if l := roomy(); flow.Check(l) != api.OK {
		t.Errorf("%v: Run does not get behind Check", l)
	}
}

// What holds everywhere: no two lists of an answer share memory, even where those that came in do.
func TestAnswersAlone(t *testing.T) {
	m, d := make([]api.Match, 2, 9), make([]api.Does, 2, 9)
	shared := func(table int) []api.Flow {
		return []api.Flow{{Table: table, Matches: m, Does: d}, {Table: table + 1, Matches: m, Does: d}, {Table: table + 2, Matches: m[:1], Does: d[1:]}}
	}
	for i, call := range calls() {
		got, again := call(shared(0), shared(3), nil), call(shared(0), shared(3), nil)
		for at := range got {
			rest := slices.Concat(slices.Delete(slices.Clone(got), at, at+1)...)
			want := fmt.Sprint(rest, again)
			for k := range got[at] {
				others := append(slices.Clone(got[at][:k]), got[at][k+1:]...)
				before := fmt.Sprint(others)
				spoil(got[at][k : k+1 : k+1])
				if fmt.Sprint(others) != before {
					t.Errorf("call %d: flow %d shares with others: %v, was %s", i, k, others, before)
				}
			}
			spoil(got[at])
			if fmt.Sprint(rest, again) != want {
				t.Errorf("call %d: answer %d shares with others", i, at)
			}
		}
		if want := call(shared(0), shared(3), nil); !reflect.DeepEqual(again, want) {
			t.Errorf("call %d: %v, want %v", i, again, want)
		}
	}
	got, _ := flow.Run([]api.Flow{doing(0, out(1), out(2), out(3))}, start)
	again, _ := flow.Run([]api.Flow{doing(0, out(1), out(2), out(3))}, start)
	for i := range got[:cap(got)] {
		got[:cap(got)][i] = api.Sent{Kind: -1}
	}
	if len(again) != 3 || again[0] != (api.Sent{Kind: api.Out, N: 1, Is: start}) {
		t.Errorf("Run: %v", again)
	}
}

// What holds everywhere: many flows come to an end, too.
func TestManyFlows(t *testing.T) {
	const n = 100000
	a, b := make([]api.Flow, n), make([]api.Flow, n)
	for i := range a {
		a[i] = doing(0, out(i*7919%n))
		b[i] = doing(0, out(i*7919%n+n/2))
	}
	come, gone := flow.Diff(a, b)
	if len(come) != n/2 || len(gone) != n/2 || !rising(come) || !rising(gone) {
		t.Fatalf("%d come, %d go", len(come), len(gone))
	}
	if got := flow.Patch(a, come, gone); !same(got, flow.Sort(b)) {
		t.Errorf("%d flows behind the patch", len(got))
	}
}
