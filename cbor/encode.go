package cbor

import (
	"bytes"
	"unicode/utf8"

	"coresec/api"
)

func Valid(x api.Item) bool {
	_, e := Encode(x)
	return e == api.OK
}

func Size(x api.Item) int {
	b, _ := Encode(x)
	return len(b)
}

func Encode(x api.Item) ([]byte, api.Errno) {
	var w writer
	if !w.item(x, 0) {
		return nil, api.ErrArg
	}
	return w.out, api.OK
}

// writer stops at the first sign that an item is not valid, so that items beyond the limits cost little, however large they are, and even if they contain themselves.
type writer struct {
	out   []byte
	begun int
}

// item appends the encoding of an item that lies within so many others, and reports whether all is valid so far.
func (w *writer) item(x api.Item, within int) bool {
	if w.begun == api.MaxItems || !unusedZero(x) {
		return false
	}
	w.begun++
	return w.body(x, within) && len(w.out) <= api.MaxBytes
}

func unusedZero(x api.Item) bool {
	switch x.Kind {
	case api.KindBytes, api.KindText:
		return x.N == 0 && len(x.Items) == 0
	case api.KindArray, api.KindMap:
		return x.N == 0 && len(x.Bytes) == 0
	case api.KindTag:
		return len(x.Bytes) == 0
	}
	return len(x.Bytes) == 0 && len(x.Items) == 0
}

func (w *writer) body(x api.Item, within int) bool {
	switch x.Kind {
	case api.KindUint, api.KindNint:
		w.out = appendHead(w.out, x.Kind, x.N)
		return true
	case api.KindBytes, api.KindText:
		return w.text(x)
	case api.KindArray, api.KindMap, api.KindTag:
		return within < api.MaxDepth && w.nest(x, within+1)
	case api.KindSimple:
		return w.simple(x.N)
	case api.KindFloat:
		return w.float(x.N)
	}
	return false
}

func (w *writer) text(x api.Item) bool {
	if len(x.Bytes) > api.MaxBytes || x.Kind == api.KindText && !utf8.Valid(x.Bytes) {
		return false
	}
	w.out = appendHead(w.out, x.Kind, uint64(len(x.Bytes)))
	w.out = append(w.out, x.Bytes...)
	return true
}

func (w *writer) nest(x api.Item, within int) bool {
	switch x.Kind {
	case api.KindMap:
		return w.pairs(x.Items, within)
	case api.KindTag:
		if len(x.Items) != 1 {
			return false
		}
		w.out = appendHead(w.out, x.Kind, x.N)
	default:
		w.out = appendHead(w.out, x.Kind, uint64(len(x.Items)))
	}
	for _, y := range x.Items {
		if !w.item(y, within) {
			return false
		}
	}
	return true
}

func (w *writer) pairs(items []api.Item, within int) bool {
	if len(items)%2 != 0 {
		return false
	}
	w.out = appendHead(w.out, api.KindMap, uint64(len(items)/2))
	var before []byte
	for i := 0; i < len(items); i += 2 {
		start := len(w.out)
		if !w.item(items[i], within) {
			return false
		}
		// An encoding is never empty, so the first key is greater than none.
		key := w.out[start:]
		if bytes.Compare(before, key) >= 0 {
			return false
		}
		before = key
		if !w.item(items[i+1], within) {
			return false
		}
	}
	return true
}

func (w *writer) simple(n uint64) bool {
	if n > 255 || n >= 24 && n < 32 {
		return false
	}
	w.out = appendHead(w.out, majorSimple, n)
	return true
}

func (w *writer) float(n uint64) bool {
	if isNaN(n) && n != theNaN {
		return false
	}
	size, short := floatForm(n)
	w.out = appendNumber(w.out, majorSimple, size, short)
	return true
}
