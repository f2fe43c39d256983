package cbor

import (
	"bytes"
	"unicode/utf8"

	"coresec/api"
)

func Decode(b []byte) (api.Item, api.Errno) {
	if len(b) > api.MaxBytes {
		return api.Item{}, api.ErrLimit
	}
	x, n, e := Prefix(b)
	if e != api.OK {
		return api.Item{}, e
	}
	if n < len(b) {
		return api.Item{}, api.ErrMore
	}
	return x, api.OK
}

func Prefix(b []byte) (api.Item, int, api.Errno) {
	r := reader{b: b[:min(len(b), api.MaxBytes)]}
	x, e := r.item(0)
	if e != api.OK {
		return api.Item{}, 0, e
	}
	return x, r.at, api.OK
}

type reader struct {
	b         []byte
	at, begun int
}

// item reads an item that lies within so many others.
func (r *reader) item(within int) (api.Item, api.Errno) {
	if r.begun == api.MaxItems {
		return api.Item{}, api.ErrLimit
	}
	r.begun++
	major, size, n, e := r.head()
	if e != api.OK {
		return api.Item{}, e
	}
	if major == majorSimple {
		return simpleOrFloat(size, n)
	}
	if size != numberSize(n) {
		return api.Item{}, api.ErrForm
	}
	switch major {
	case api.KindUint, api.KindNint:
		return api.Item{Kind: major, N: n}, api.OK
	case api.KindBytes, api.KindText:
		return r.text(major, n)
	}
	if within == api.MaxDepth {
		return api.Item{}, api.ErrLimit
	}
	return r.nest(major, n, within+1)
}

// head returns the major type, and the number with its size: how many bytes it has after the first one.
func (r *reader) head() (major, size int, n uint64, e api.Errno) {
	if r.at == len(r.b) {
		return 0, 0, 0, api.ErrShort
	}
	first := r.b[r.at]
	low := first & 31
	if low > 27 {
		return 0, 0, 0, api.ErrCode
	}
	n = uint64(low)
	if low >= 24 {
		size = 1 << (low - 24)
		n = 0
	}
	rest := r.b[r.at+1:]
	if size > len(rest) {
		return 0, 0, 0, api.ErrShort
	}
	for _, c := range rest[:size] {
		n = n<<8 | uint64(c)
	}
	r.at += 1 + size
	return int(first >> 5), size, n, api.OK
}

func simpleOrFloat(size int, n uint64) (api.Item, api.Errno) {
	if size < 2 {
		if size == 1 && n < 32 {
			return api.Item{}, api.ErrForm
		}
		return api.Item{Kind: api.KindSimple, N: n}, api.OK
	}
	double := floatBits(size, n)
	if s, m := floatForm(double); s != size || m != n {
		return api.Item{}, api.ErrForm
	}
	return api.Item{Kind: api.KindFloat, N: double}, api.OK
}

func (r *reader) text(kind int, n uint64) (api.Item, api.Errno) {
	rest := r.b[r.at:]
	if n > uint64(len(rest)) {
		return api.Item{}, api.ErrShort
	}
	s := rest[:n]
	if kind == api.KindText && !utf8.Valid(s) {
		return api.Item{}, api.ErrText
	}
	r.at += len(s)
	return api.Item{Kind: kind, Bytes: bytes.Clone(s)}, api.OK
}

func (r *reader) nest(kind int, n uint64, within int) (api.Item, api.Errno) {
	switch kind {
	case api.KindMap:
		return r.pairs(n, within)
	case api.KindTag:
		y, e := r.item(within)
		if e != api.OK {
			return api.Item{}, e
		}
		return api.Item{Kind: kind, N: n, Items: []api.Item{y}}, api.OK
	}
	// n says how many elements are promised, not how many there are: no memory is set aside for it.
	x := api.Item{Kind: kind}
	for range n {
		y, e := r.item(within)
		if e != api.OK {
			return api.Item{}, e
		}
		x.Items = append(x.Items, y)
	}
	return x, api.OK
}

// pairs counts pairs, because twice their number may be more than a number of 64 bits.
func (r *reader) pairs(n uint64, within int) (api.Item, api.Errno) {
	x := api.Item{Kind: api.KindMap}
	var before []byte
	for range n {
		start := r.at
		key, e := r.item(within)
		if e != api.OK {
			return api.Item{}, e
		}
		// Only deterministic items are read, so the bytes that were read are the key's encoding.
		code := r.b[start:r.at]
		switch bytes.Compare(before, code) {
		case 0:
			return api.Item{}, api.ErrExists
		case 1:
			return api.Item{}, api.ErrOrder
		}
		before = code
		value, e := r.item(within)
		if e != api.OK {
			return api.Item{}, e
		}
		x.Items = append(x.Items, key, value)
	}
	return x, api.OK
}
