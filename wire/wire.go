// Package wire: frames as bytes, alone and in tunnels.
package wire

import "dyeworks/api"

const (
	headSize = 14 // what stands ahead of the Body
	sumSize  = 2
	mark     = "dy" // what comes by a tunnel begins so
	wrapSize = 6    // what stands ahead of a frame in a tunnel
)

// Check a frame: OK, if it may be, else the first thing that is wrong with it.
func Check(f api.Frame) api.Errno {
	switch {
	case !isKind(f.Kind):
		return api.ErrKind
	case !inBounds(f):
		return api.ErrRange
	case len(f.Body) > api.MaxBody:
		return api.ErrSize
	case f.Kind != api.Data && hasLoad(f):
		return api.ErrForm
	}
	return api.OK
}

// Encode a frame as bytes, with their sum at the end.
func Encode(f api.Frame) ([]byte, api.Errno) {
	if e := Check(f); e != api.OK {
		return nil, e
	}
	b := appendWord(nil, f.Dst)
	b = appendWord(b, f.Src)
	b = append(b, byte(f.Kind), byte(f.Ttl))
	b = appendWord(b, f.IpSrc)
	b = appendWord(b, f.IpDst)
	b = appendWord(b, f.Port)
	b = appendWord(b, len(f.Body))
	b = append(b, f.Body...)
	return appendWord(b, sum(b)), api.OK
}

// Decode bytes as the frame of which Encode makes them.
func Decode(b []byte) (api.Frame, api.Errno) {
	if e := checkBytes(b); e != api.OK {
		return api.Frame{}, e
	}
	f := parse(b)
	if e := Check(f); e != api.OK {
		return api.Frame{}, e
	}
	return f, api.OK
}

// Wrap a frame for a tunnel: to a port of a switch.
func Wrap(net, to int, f api.Frame) ([]byte, api.Errno) {
	if !isWord(net) || !isWord(to) {
		return nil, api.ErrRange
	}
	frame, e := Encode(f)
	if e != api.OK {
		return nil, e
	}
	b := appendWord([]byte(mark), net)
	b = appendWord(b, to)
	return append(b, frame...), api.OK
}

// Unwrap what came by a tunnel: the switch, the port, and the frame.
func Unwrap(b []byte) (int, int, api.Frame, api.Errno) {
	if len(b) < wrapSize {
		return 0, 0, api.Frame{}, api.ErrShort
	}
	if string(b[:len(mark)]) != mark {
		return 0, 0, api.Frame{}, api.ErrForm
	}
	f, e := Decode(b[wrapSize:])
	if e != api.OK {
		return 0, 0, api.Frame{}, e
	}
	return wordAt(b, 2), wordAt(b, 4), f, api.OK
}

func isKind(n int) bool {
	return n == api.Ask || n == api.Answer || n == api.Data
}

func isWord(n int) bool {
	return 0 <= n && n <= api.MaxWord
}

func inBounds(f api.Frame) bool {
	return isWord(f.Dst) && isWord(f.Src) && isWord(f.IpSrc) && isWord(f.IpDst) && isWord(f.Port) &&
		0 <= f.Ttl && f.Ttl <= api.MaxTtl
}

// hasLoad: is there anything in the frame that Data alone may have?
func hasLoad(f api.Frame) bool {
	return f.Ttl != 0 || f.Port != 0 || f.Body != ""
}

// checkBytes: do the lengths and the sum of an encoded frame agree with its bytes?
func checkBytes(b []byte) api.Errno {
	if len(b) < headSize+sumSize {
		return api.ErrShort
	}
	body := bodySize(b)
	whole := headSize + body + sumSize
	switch {
	case body > api.MaxBody:
		return api.ErrSize
	case len(b) < whole:
		return api.ErrShort
	case len(b) > whole:
		return api.ErrForm
	case wordAt(b, whole-sumSize) != sum(b[:whole-sumSize]):
		return api.ErrSum
	}
	return api.OK
}

// parse reads the fields of bytes whose lengths agree (checkBytes).
func parse(b []byte) api.Frame {
	return api.Frame{
		Dst:   wordAt(b, 0),
		Src:   wordAt(b, 2),
		Kind:  int(b[4]),
		Ttl:   int(b[5]),
		IpSrc: wordAt(b, 6),
		IpDst: wordAt(b, 8),
		Port:  wordAt(b, 10),
		Body:  string(b[headSize : headSize+bodySize(b)]),
	}
}

func bodySize(b []byte) int {
	return wordAt(b, 12)
}

func wordAt(b []byte, i int) int {
	return int(b[i])<<8 | int(b[i+1])
}

func appendWord(b []byte, n int) []byte {
	return append(b, byte(n>>8), byte(n))
}

// sum of bytes: a byte at an even place is the higher one of its word, so a last one alone needs no 0 behind it.
func sum(b []byte) int {
	total := 0
	for i, c := range b {
		if i%2 == 0 {
			total += int(c) << 8
		} else {
			total += int(c)
		}
	}
	// What is carried round may go above MaxWord again.
	for total > api.MaxWord {
		total = total%(api.MaxWord+1) + total/(api.MaxWord+1)
	}
	return api.MaxWord - total
}
