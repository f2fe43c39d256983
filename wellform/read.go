package wellform

import (
	"bytes"
	"math"
	"unicode/utf8"

	"coresec/api"
	"coresec/cbor"
)

// majorSimple is the major type of simple values and floats; the other major types have the numbers of their kinds.
const majorSimple = 7

// indefinite is what the low five bits of a first byte are if an item has an indefinite length.
const indefinite = 31

const breakByte = 255

// theNaN is the only float of an item that is not a number.
const theNaN = 0x7ff8000000000000

// reader reads general items. Its methods return an item of no use together with an error.
type reader struct {
	b         []byte
	at, begun int
	loose     bool // something read so far has not its form of chapter 1 (the order of keys, and texts, aside)
	badText   bool // a text read so far, or a chunk of one, is not valid UTF-8
}

func newReader(b []byte) *reader { return &reader{b: b[:min(len(b), api.MaxBytes)]} }

// head is a head that was read: size says how many bytes its number has after the first one.
type head struct {
	major, size int
	n           uint64
	open        bool // the length is indefinite
}

// item reads an item that lies within so many others.
func (r *reader) item(within int) (api.Item, api.Errno) {
	first, e := r.first()
	if e != api.OK {
		return api.Item{}, e
	}
	h, e := r.head(first)
	if e != api.OK {
		return api.Item{}, e
	}
	switch h.major {
	case api.KindUint, api.KindNint:
		return api.Item{Kind: h.major, N: h.n}, api.OK
	case api.KindBytes, api.KindText:
		return r.text(h)
	case majorSimple:
		return r.simpleOrFloat(h)
	}
	if within == api.MaxDepth {
		return api.Item{}, api.ErrLimit
	}
	return r.nest(h, within+1)
}

// first begins an item and returns its first byte, which is not taken yet.
func (r *reader) first() (byte, api.Errno) {
	if r.begun == api.MaxItems {
		return 0, api.ErrLimit
	}
	if r.at == len(r.b) {
		return 0, api.ErrShort
	}
	r.begun++
	if first := r.b[r.at]; !reserved(first) {
		return first, api.OK
	}
	return 0, api.ErrCode
}

// reserved reports whether no item begins with this byte.
func reserved(first byte) bool {
	if first&31 != indefinite {
		return first&31 > 27
	}
	major := int(first >> 5)
	return major < api.KindBytes || major > api.KindMap
}

func (r *reader) head(first byte) (head, api.Errno) {
	r.at++
	h := head{major: int(first >> 5), n: uint64(first & 31)}
	if h.n == indefinite {
		r.loose = true
		return head{major: h.major, open: true}, api.OK
	}
	if h.n < 24 {
		return h, api.OK
	}
	h.size = 1 << (h.n - 24)
	h.n = 0
	rest := r.b[r.at:]
	if h.size > len(rest) {
		return head{}, api.ErrShort
	}
	for _, c := range rest[:h.size] {
		h.n = h.n<<8 | uint64(c)
	}
	r.at += h.size
	// The bytes of a float are no number, and a simple value has one form only.
	if h.major != majorSimple && cbor.Size(cbor.Uint(h.n)) != 1+h.size {
		r.loose = true
	}
	return h, api.OK
}

func (r *reader) simpleOrFloat(h head) (api.Item, api.Errno) {
	if h.size > 1 {
		return r.float(h), api.OK
	}
	if h.size == 1 && h.n < 32 {
		return api.Item{}, api.ErrForm
	}
	return api.Item{Kind: api.KindSimple, N: h.n}, api.OK
}

func (r *reader) float(h head) api.Item {
	code := r.b[r.at-1-h.size : r.at]
	if x, e := cbor.Decode(code); e == api.OK {
		return x
	}
	r.loose = true
	return api.Item{Kind: api.KindFloat, N: longFloat(h.size, h.n)}
}

// longFloat returns the double that a float of so many bytes means, which has not its form of chapter 1.
func longFloat(size int, n uint64) uint64 {
	// A half that is a number cannot be shorter, so it would have that form.
	f := math.NaN()
	switch size {
	case 4:
		f = float64(math.Float32frombits(uint32(n)))
	case 8:
		f = math.Float64frombits(n)
	}
	if math.IsNaN(f) {
		return theNaN
	}
	return math.Float64bits(f)
}

func (r *reader) text(h head) (api.Item, api.Errno) {
	x := api.Item{Kind: h.major}
	if !h.open {
		s, e := r.content(h)
		x.Bytes = bytes.Clone(s)
		return x, e
	}
	e := r.each(h, func() api.Errno {
		s, e := r.chunk(h.major)
		x.Bytes = append(x.Bytes, s...)
		return e
	})
	return x, e
}

func (r *reader) chunk(major int) ([]byte, api.Errno) {
	first, e := r.first()
	if e != api.OK {
		return nil, e
	}
	if int(first>>5) != major || first&31 == indefinite {
		return nil, api.ErrForm
	}
	h, e := r.head(first)
	if e != api.OK {
		return nil, e
	}
	return r.content(h)
}

// content returns the bytes of a string of definite length; they are a part of the reader's bytes.
func (r *reader) content(h head) ([]byte, api.Errno) {
	rest := r.b[r.at:]
	if h.n > uint64(len(rest)) {
		return nil, api.ErrShort
	}
	s := rest[:h.n]
	r.at += len(s)
	if h.major == api.KindText && !utf8.Valid(s) {
		r.badText = true
	}
	return s, api.OK
}

// nest reads the elements of an array, a map or a tag.
func (r *reader) nest(h head, within int) (api.Item, api.Errno) {
	x := api.Item{Kind: h.major}
	if h.major == api.KindTag {
		x.N, h.n = h.n, 1
	}
	element := func() api.Errno {
		y, e := r.item(within)
		x.Items = append(x.Items, y)
		return e
	}
	read := element
	if h.major == api.KindMap {
		// The number in the head counts pairs: twice that may be more than 64 bits hold.
		read = func() api.Errno {
			if e := element(); e != api.OK {
				return e
			}
			if h.open && r.atBreak() {
				return api.ErrForm
			}
			return element()
		}
	}
	e := r.each(h, read)
	return x, e
}

// each reads as many parts as the head says, or all parts up to a break.
func (r *reader) each(h head, read func() api.Errno) api.Errno {
	for i := uint64(0); h.open || i < h.n; i++ {
		if h.open && r.atBreak() {
			r.at++
			return api.OK
		}
		if e := read(); e != api.OK {
			return e
		}
	}
	return api.OK
}

func (r *reader) atBreak() bool { return r.at < len(r.b) && r.b[r.at] == breakByte }
