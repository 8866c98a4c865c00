package wire_test

import (
	"bytes"
	"fmt"
	"math"
	"slices"
	"strings"
	"testing"

	"dyeworks/api"
	"dyeworks/wire"
)

var ask = api.Frame{Dst: 1, Src: 2, Kind: api.Ask, IpSrc: 3, IpDst: 4}

var full = api.Frame{
	Dst: 0x0102, Src: 0x0304, Kind: api.Data, Ttl: 0x05,
	IpSrc: 0x0607, IpDst: 0x0809, Port: 0x0a0b, Body: "xyz",
}

// with: a frame with a change.
func with(f api.Frame, change func(*api.Frame)) api.Frame {
	change(&f)
	return f
}

// plainSum works the sum out by division, not by carrying round.
func plainSum(b []byte) int {
	if len(b)%2 == 1 {
		b = append(slices.Clone(b), 0)
	}
	total := 0
	for i := 0; i < len(b); i += 2 {
		total += int(b[i])*256 + int(b[i+1])
	}
	if total > 0 {
		total = (total-1)%65535 + 1
	}
	return 65535 - total
}

// sealed: bytes with their sum behind them.
func sealed(b ...byte) []byte {
	n := plainSum(b)
	return append(slices.Clone(b), byte(n/256), byte(n%256))
}

// head: the 14 bytes ahead of a Body, all 0 but these.
func head(kind, ttl, port, size int) []byte {
	b := make([]byte, 14)
	b[4], b[5] = byte(kind), byte(ttl)
	b[10], b[11] = byte(port/256), byte(port%256)
	b[12], b[13] = byte(size/256), byte(size%256)
	return b
}

// frames that may be, of all kinds and at all edges.
func frames() []api.Frame {
	l := []api.Frame{ask, full, {Kind: api.Ask}, {Kind: api.Answer}, {Kind: api.Data}}
	for _, kind := range []int{api.Ask, api.Answer, api.Data} {
		for _, n := range []int{0, 1, 255, 256, 60000, 65534, 65535} {
			l = append(l, api.Frame{Kind: kind, Dst: n}, api.Frame{Kind: kind, Src: n},
				api.Frame{Kind: kind, IpSrc: n}, api.Frame{Kind: kind, IpDst: n})
		}
	}
	for _, n := range []int{0, 1, 255, 256, 65535} {
		l = append(l, api.Frame{Kind: api.Data, Port: n})
	}
	for _, n := range []int{1, 127, 128, 255} {
		l = append(l, api.Frame{Kind: api.Data, Ttl: n})
	}
	for n := range api.MaxBody + 1 {
		for _, text := range []string{"a", "\x00", "\xff", "\x80"} {
			f := full
			f.Body = strings.Repeat(text, n)
			l = append(l, f, api.Frame{Kind: api.Data, Body: f.Body})
		}
	}
	high := api.Frame{Dst: 65535, Src: 65535, Kind: api.Data, IpSrc: 65535, IpDst: 65535, Ttl: 255, Port: 65535}
	return append(l, high, with(high, func(f *api.Frame) { f.Body = strings.Repeat("\xff", api.MaxBody) }))
}

// P1.1: frames that may be.
func TestCheckTakes(t *testing.T) {
	for _, f := range frames() {
		if e := wire.Check(f); e != api.OK {
			t.Errorf("Check(%#v): %v", f, e)
		}
	}
}

// refused: frames that may not be, with the error that comes first.
func refused() []struct {
	f api.Frame
	e api.Errno
} {
	type row = struct {
		f api.Frame
		e api.Errno
	}
	var l []row
	for _, kind := range []int{math.MinInt, -1, 0, 4, 256 + api.Data, math.MaxInt} {
		l = append(l, row{with(full, func(f *api.Frame) { f.Kind = kind }), api.ErrKind})
	}
	for _, n := range []int{math.MinInt, -65536, -1, 65536, 65537, 1 << 32, math.MaxInt} {
		for _, base := range []api.Frame{ask, full} {
			l = append(l,
				row{with(base, func(f *api.Frame) { f.Dst = n }), api.ErrRange},
				row{with(base, func(f *api.Frame) { f.Src = n }), api.ErrRange},
				row{with(base, func(f *api.Frame) { f.IpSrc = n }), api.ErrRange},
				row{with(base, func(f *api.Frame) { f.IpDst = n }), api.ErrRange},
				row{with(base, func(f *api.Frame) { f.Port = n }), api.ErrRange})
		}
	}
	for _, n := range []int{math.MinInt, -256, -1, 256, 257, math.MaxInt} {
		l = append(l,
			row{with(full, func(f *api.Frame) { f.Ttl = n }), api.ErrRange},
			row{with(ask, func(f *api.Frame) { f.Ttl = n }), api.ErrRange})
	}
	for _, n := range []int{41, 42, 65536, 65540} {
		l = append(l,
			row{api.Frame{Kind: api.Data, Body: strings.Repeat("b", n)}, api.ErrSize},
			row{api.Frame{Kind: api.Ask, Ttl: 1, Body: strings.Repeat("b", n)}, api.ErrSize})
	}
	for _, kind := range []int{api.Ask, api.Answer} {
		l = append(l,
			row{api.Frame{Kind: kind, Ttl: 1}, api.ErrForm}, row{api.Frame{Kind: kind, Ttl: 255}, api.ErrForm},
			row{api.Frame{Kind: kind, Port: 1}, api.ErrForm}, row{api.Frame{Kind: kind, Port: 65535}, api.ErrForm},
			row{api.Frame{Kind: kind, Body: "\x00"}, api.ErrForm},
			row{api.Frame{Kind: kind, Body: strings.Repeat("b", api.MaxBody)}, api.ErrForm})
	}
	long := strings.Repeat("b", api.MaxBody+1)
	return append(l,
		row{api.Frame{}, api.ErrKind},
		row{api.Frame{Dst: -1, Ttl: -1, Body: long}, api.ErrKind},
		row{api.Frame{Kind: api.Answer, Dst: -1, Ttl: 1, Body: long}, api.ErrRange},
		row{api.Frame{Kind: api.Data, Port: -1, Body: long}, api.ErrRange})
}

// P1.1, P1.3 and P1.5: what may not be is refused by all that take a frame.
func TestRefusedFrames(t *testing.T) {
	for _, c := range refused() {
		if e := wire.Check(c.f); e != c.e {
			t.Errorf("Check(%#v): %v, want %v", c.f, e, c.e)
		}
		if b, e := wire.Encode(c.f); len(b) != 0 || e != c.e {
			t.Errorf("Encode(%#v): %v %v, want %v", c.f, b, e, c.e)
		}
		if b, e := wire.Wrap(1, 2, c.f); len(b) != 0 || e != c.e {
			t.Errorf("Wrap(%#v): %v %v, want %v", c.f, b, e, c.e)
		}
	}
}

// P1.2: sums written out.
func TestSum(t *testing.T) {
	for _, c := range []struct {
		f    api.Frame
		want int
	}{
		{api.Frame{Kind: api.Data}, 65535 - 0x300},
		{ask, 0xfef5},
		{api.Frame{Kind: api.Data, Dst: 65535 - 0x300}, 0},
		{api.Frame{Kind: api.Data, Dst: 65535 - 0x300 + 1}, 65535 - 1},
		{api.Frame{Kind: api.Data, Dst: 65535}, 65535 - 0x300},
		{api.Frame{Kind: api.Data, Dst: 65535, Src: 65535 - 0x300}, 0},
		{api.Frame{Kind: api.Data, Body: "\x01"}, 65535 - 0x300 - 1 - 0x100},
		{api.Frame{Kind: api.Data, Body: "\x01\x02"}, 65535 - 0x300 - 2 - 0x102},
		{api.Frame{Kind: api.Data, Body: "\x01\x02\xff"}, 65535 - (0x300 + 3 + 0x102 + 0xff00 - 65535)},
		// 0x300 + 65535 + 65535 + 0xfcff is 0x2fffd, 2 carried round is 0xffff.
		{api.Frame{Kind: api.Data, Dst: 65535, Src: 65535, IpSrc: 0xfcff}, 0},
		// One more is 0x2fffe, 2 carried round is 0x10000, 1 carried round again.
		{api.Frame{Kind: api.Data, Dst: 65535, Src: 65535, IpSrc: 0xfd00}, 65534},
	} {
		b, e := wire.Encode(c.f)
		if e != api.OK {
			t.Fatalf("Encode(%#v): %v", c.f, e)
		}
		if got := int(b[len(b)-2])*256 + int(b[len(b)-1]); got != c.want {
			t.Errorf("sum of %#v: %#x, want %#x", c.f, got, c.want)
		}
	}
}

// P1.2 and P1.3: the sum at all edges, against one that is worked out another way.
func TestSumOfFrames(t *testing.T) {
	for _, f := range frames() {
		b, e := wire.Encode(f)
		if e != api.OK || len(b) != 16+len(f.Body) {
			t.Fatalf("Encode(%#v): %v %v", f, b, e)
		}
		if want := sealed(b[:len(b)-2]...); !bytes.Equal(b, want) {
			t.Errorf("Encode(%#v): %v, want %v", f, b, want)
		}
	}
}

// P1.3: each field at its place.
func TestEncode(t *testing.T) {
	for _, c := range []struct {
		f    api.Frame
		want []byte
	}{
		{ask, []byte{0, 1, 0, 2, 1, 0, 0, 3, 0, 4, 0, 0, 0, 0, 254, 245}},
		{full, sealed(1, 2, 3, 4, 3, 5, 6, 7, 8, 9, 10, 11, 0, 3, 'x', 'y', 'z')},
		{api.Frame{Dst: 65535, Kind: api.Answer, IpDst: 65280},
			sealed(255, 255, 0, 0, 2, 0, 0, 0, 255, 0, 0, 0, 0, 0)},
		{api.Frame{Kind: api.Data, Ttl: 255, Port: 65535, Body: "\xff\x00"},
			sealed(0, 0, 0, 0, 3, 255, 0, 0, 0, 0, 255, 255, 0, 2, 255, 0)},
	} {
		if b, e := wire.Encode(c.f); !bytes.Equal(b, c.want) || e != api.OK {
			t.Errorf("Encode(%#v): %v %v, want %v", c.f, b, e, c.want)
		}
	}
}

// P1.4: what was encoded is decoded.
func TestDecodeEncoded(t *testing.T) {
	for _, f := range frames() {
		b, _ := wire.Encode(f)
		if g, e := wire.Decode(b); g != f || e != api.OK {
			t.Errorf("Decode(%v): %#v %v, want %#v", b, g, e, f)
		}
	}
}

// wrongBytes: no frames, with the error that comes first.
func wrongBytes() []struct {
	b []byte
	e api.Errno
} {
	good, _ := wire.Encode(full)
	zeros := func(n int) []byte { return make([]byte, n) }
	join := func(l ...[]byte) []byte { return slices.Concat(l...) }
	return []struct {
		b []byte
		e api.Errno
	}{
		{nil, api.ErrShort},
		{[]byte{}, api.ErrShort},
		{good[:1], api.ErrShort},
		{good[:14], api.ErrShort},
		{good[:15], api.ErrShort},
		{join(head(api.Data, 0, 0, 65535), zeros(1)), api.ErrShort},
		{join(head(api.Data, 0, 0, 41), zeros(2)), api.ErrSize},
		{sealed(join(head(api.Data, 0, 0, 41), zeros(41))...), api.ErrSize},
		{join(head(api.Data, 0, 0, 256), zeros(2)), api.ErrSize},
		{join(head(0, 0, 0, 65535), zeros(2)), api.ErrSize},
		{sealed(join(head(api.Data, 0, 0, 65535), zeros(65535))...), api.ErrSize},
		{good[:16], api.ErrShort},
		{good[:len(good)-1], api.ErrShort},
		{sealed(head(api.Data, 0, 0, 1)...), api.ErrShort},
		{sealed(join(head(api.Data, 0, 0, 40), zeros(39))...), api.ErrShort},
		{sealed(join(head(api.Data, 0, 0, 40), zeros(41))...), api.ErrForm},
		{join(good, zeros(1)), api.ErrForm},
		{join(good, zeros(2)), api.ErrForm},
		{join(head(0, 0, 0, 0), zeros(3)), api.ErrForm},
		{join(head(api.Data, 0, 0, 0), zeros(100000)), api.ErrForm},
		{zeros(16), api.ErrSum},
		{join(head(9, 0, 0, 0), zeros(2)), api.ErrSum},
		{join(head(api.Ask, 1, 0, 0), zeros(2)), api.ErrSum},
		{[]byte{0, 1, 0, 2, 1, 0, 0, 3, 0, 4, 0, 0, 0, 0, 254, 244}, api.ErrSum},
		{[]byte{0, 1, 0, 2, 1, 0, 0, 3, 0, 4, 0, 0, 0, 0, 253, 245}, api.ErrSum},
		{[]byte{0, 1, 0, 2, 1, 0, 0, 3, 0, 4, 0, 0, 0, 0, 245, 254}, api.ErrSum},
		// Its sum is 0: the other way to tell the same in such sums does not count.
		{join([]byte{0xfc, 0xff, 0, 0, 3, 0}, zeros(8), []byte{255, 255}), api.ErrSum},
		{sealed(zeros(14)...), api.ErrKind},
		{sealed(head(4, 0, 0, 0)...), api.ErrKind},
		{sealed(head(255, 1, 1, 0)...), api.ErrKind},
		{sealed(head(api.Ask, 1, 0, 0)...), api.ErrForm},
		{sealed(head(api.Answer, 0, 1, 0)...), api.ErrForm},
		{sealed(join(head(api.Ask, 0, 0, 1), zeros(1))...), api.ErrForm},
		{sealed(join(head(api.Answer, 0, 0, 40), zeros(40))...), api.ErrForm},
	}
}

// P1.4 and P1.5: what is no frame is refused, alone and behind the beginning of a tunnel's bytes.
func TestWrongBytes(t *testing.T) {
	for i, c := range wrongBytes() {
		if f, e := wire.Decode(c.b); f != (api.Frame{}) || e != c.e {
			t.Errorf("Decode, row %d: %#v %v, want %v", i, f, e, c.e)
		}
		wrapped := slices.Concat([]byte{'d', 'y', 0, 1, 0, 2}, c.b)
		if n, to, f, e := wire.Unwrap(wrapped); n != 0 || to != 0 || f != (api.Frame{}) || e != c.e {
			t.Errorf("Unwrap, row %d: %d %d %#v %v, want %v", i, n, to, f, e, c.e)
		}
	}
}

// P1.4: whatever single bit of a frame is changed, it is refused.
func TestChangedBit(t *testing.T) {
	for _, f := range frames() {
		b, _ := wire.Encode(f)
		for i := range len(b) * 8 {
			b[i/8] ^= 1 << (i % 8)
			if g, e := wire.Decode(b); g != (api.Frame{}) || e == api.OK {
				t.Fatalf("%#v with bit %d changed: %#v %v", f, i, g, e)
			}
			b[i/8] ^= 1 << (i % 8)
		}
	}
}

// P1.5: what was wrapped is unwrapped, and has its form.
func TestWrap(t *testing.T) {
	for _, f := range frames() {
		frame, _ := wire.Encode(f)
		for _, c := range []struct {
			net, to int
			front   []byte
		}{
			{0, 0, []byte("dy\x00\x00\x00\x00")},
			{1, 2, []byte("dy\x00\x01\x00\x02")},
			{0x0304, 0xfeff, []byte("dy\x03\x04\xfe\xff")},
			{65535, 0, []byte("dy\xff\xff\x00\x00")},
			{0, 65535, []byte("dy\x00\x00\xff\xff")},
		} {
			b, e := wire.Wrap(c.net, c.to, f)
			if want := slices.Concat(c.front, frame); !bytes.Equal(b, want) || e != api.OK {
				t.Fatalf("Wrap(%d, %d, %#v): %v %v, want %v", c.net, c.to, f, b, e, want)
			}
			if n, to, g, e := wire.Unwrap(b); n != c.net || to != c.to || g != f || e != api.OK {
				t.Fatalf("Unwrap(%v): %d %d %#v %v", b, n, to, g, e)
			}
		}
	}
}

// P1.5: numbers that are no words, ahead of whatever the frame is.
func TestWrapRange(t *testing.T) {
	for _, n := range []int{math.MinInt, -65536, -1, 65536, 1 << 32, math.MaxInt} {
		for _, f := range []api.Frame{ask, {}, {Kind: api.Ask, Ttl: 1}} {
			if b, e := wire.Wrap(n, 0, f); len(b) != 0 || e != api.ErrRange {
				t.Errorf("Wrap(%d, 0, %#v): %v %v", n, f, b, e)
			}
			if b, e := wire.Wrap(0, n, f); len(b) != 0 || e != api.ErrRange {
				t.Errorf("Wrap(0, %d, %#v): %v %v", n, f, b, e)
			}
		}
	}
}

// P1.5: beginnings that are none.
func TestUnwrapFront(t *testing.T) {
	frame, _ := wire.Encode(full)
	for _, c := range []struct {
		b string
		e api.Errno
	}{
		{"", api.ErrShort},
		{"d", api.ErrShort},
		{"dy", api.ErrShort},
		{"dy000", api.ErrShort},
		{"xx000", api.ErrShort},
		{"dx0000", api.ErrForm},
		{"xy0000", api.ErrForm},
		{"yd0000", api.ErrForm},
		{"DY0000", api.ErrForm},
		{"dx0000" + string(frame), api.ErrForm},
		{"xy0000" + string(frame), api.ErrForm},
		{"\x00\x00\x00\x00\x00\x00" + string(frame), api.ErrForm},
		{"dx0000" + string(frame) + "more", api.ErrForm},
		{"dy0000", api.ErrShort},
		{"dy00000" + string(frame), api.ErrSize},
		{"dy0000" + string(frame) + "more", api.ErrForm},
	} {
		if n, to, f, e := wire.Unwrap([]byte(c.b)); n != 0 || to != 0 || f != (api.Frame{}) || e != c.e {
			t.Errorf("Unwrap(%q): %d %d %#v %v, want %v", c.b, n, to, f, e, c.e)
		}
	}
}

// What holds everywhere: bytes that are handed in stay, their spare room too, and are not kept.
func TestBytesHandedIn(t *testing.T) {
	b, _ := wire.Wrap(7, 8, full)
	room := append(slices.Clone(b), "spare room"...)
	kept := slices.Clone(room)
	_, _, f, e := wire.Unwrap(room[:len(b)])
	g, h := wire.Decode(room[6:len(b)])
	if e != api.OK || h != api.OK || !bytes.Equal(room, kept) {
		t.Errorf("%v %v: %v, want %v", e, h, room, kept)
	}
	for i := range room {
		room[i] = '!'
	}
	if f != full || g != full {
		t.Errorf("%#v %#v, want %#v", f, g, full)
	}
}

// What holds everywhere: answers share no memory, their spare room neither, and nothing is kept from call to call.
func TestAnswersAlone(t *testing.T) {
	encode := func() []byte { b, _ := wire.Encode(full); return b }
	wrap := func() []byte { b, _ := wire.Wrap(7, 8, full); return b }
	for row, makes := range []func() []byte{encode, wrap} {
		a, b := makes(), makes()
		kept := slices.Clone(b)
		for i := range a[:cap(a)] {
			a[:cap(a)][i] = '!'
		}
		if !bytes.Equal(b, kept) || !bytes.Equal(makes(), kept) {
			t.Errorf("row %d: %v %v, want %v", row, b, makes(), kept)
		}
	}
}

// What holds everywhere: no bytes make a call panic, and what is taken is what Encode tells so.
func FuzzUnwrap(f *testing.F) {
	for _, x := range []api.Frame{ask, full} {
		b, _ := wire.Wrap(1, 2, x)
		f.Add(b)
	}
	f.Add([]byte("dy"))
	f.Fuzz(func(t *testing.T, b []byte) {
		net, to, x, e := wire.Unwrap(b)
		if e != api.OK {
			if fmt.Sprint(net, to, x) != fmt.Sprint(0, 0, api.Frame{}) {
				t.Errorf("Unwrap(%v): %d %d %#v %v", b, net, to, x, e)
			}
			return
		}
		if again, e := wire.Wrap(net, to, x); !bytes.Equal(again, b) || e != api.OK {
			t.Errorf("Wrap of what %v was: %v %v", b, again, e)
		}
	})
}
