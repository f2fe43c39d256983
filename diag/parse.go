package diag

import (
	"strconv"
	"strings"

	"coresec/api"
)

func Parse(s string) (api.Item, api.Errno) {
	r := reader{rest: s}
	x, ok := r.item(0)
	if !ok {
		return api.Item{}, api.ErrSyntax
	}
	// The reader also takes other spellings (leading zeros, needless escapes) and items that are not valid: only the text of a valid item is what is printed for it.
	if text, e := Print(x); e != api.OK || text != s {
		return api.Item{}, api.ErrSyntax
	}
	return x, api.OK
}

// reader reads texts from left to right. With a false result, its methods return an item of no use.
type reader struct {
	rest  string
	begun int
}

// take takes a beginning of the rest, if it is there.
func (r *reader) take(s string) bool {
	rest, ok := strings.CutPrefix(r.rest, s)
	r.rest = rest
	return ok
}

// item reads an item that lies within so many others. The limits keep what is read, and the recursion, small.
func (r *reader) item(within int) (api.Item, bool) {
	if r.begun == api.MaxItems || within > api.MaxDepth {
		return api.Item{}, false
	}
	r.begun++
	switch {
	case r.take("-"):
		return r.negative()
	case r.take("h'"):
		return r.bytes()
	case r.take(`"`):
		return r.text()
	case r.take("["):
		return r.elements(within + 1)
	case r.take("{"):
		return r.pairs(within + 1)
	case r.take("simple("):
		n, ok := r.number()
		return api.Item{Kind: api.KindSimple, N: n}, ok && r.take(")")
	case r.take("float'"):
		return r.float()
	}
	for i, name := range names {
		if r.take(name) {
			return api.Item{Kind: api.KindSimple, N: uint64(firstNamed + i)}, true
		}
	}
	return r.numberOrTag(within)
}

// decimal takes all digits that come next.
func (r *reader) decimal() string {
	end := 0
	for end < len(r.rest) && r.rest[end] >= '0' && r.rest[end] <= '9' {
		end++
	}
	s := r.rest[:end]
	r.rest = r.rest[end:]
	return s
}

func (r *reader) number() (uint64, bool) {
	n, err := strconv.ParseUint(r.decimal(), 10, 64)
	return n, err == nil
}

// negative reads what follows the minus sign.
func (r *reader) negative() (api.Item, bool) {
	s := r.decimal()
	if s == leastNegative[1:] {
		return api.Item{Kind: api.KindNint, N: maxUint}, true
	}
	n, err := strconv.ParseUint(s, 10, 64)
	return api.Item{Kind: api.KindNint, N: n - 1}, err == nil && n > 0
}

func (r *reader) numberOrTag(within int) (api.Item, bool) {
	n, ok := r.number()
	if !ok || !r.take("(") {
		return api.Item{Kind: api.KindUint, N: n}, ok
	}
	y, ok := r.item(within + 1)
	return api.Item{Kind: api.KindTag, N: n, Items: []api.Item{y}}, ok && r.take(")")
}

func (r *reader) bytes() (api.Item, bool) {
	return r.string(api.KindBytes, "'", r.hex)
}

func (r *reader) text() (api.Item, bool) {
	return r.string(api.KindText, `"`, r.char)
}

// string reads bytes up to the end.
func (r *reader) string(kind int, end string, read func() (byte, bool)) (api.Item, bool) {
	x := api.Item{Kind: kind}
	for !r.take(end) {
		c, ok := read()
		if !ok || len(x.Bytes) == api.MaxBytes {
			return api.Item{}, false
		}
		x.Bytes = append(x.Bytes, c)
	}
	return x, true
}

// char reads one byte of a text.
func (r *reader) char() (byte, bool) {
	if r.take(`\u00`) {
		return r.hex()
	}
	r.take(`\`)
	if r.rest == "" {
		return 0, false
	}
	c := r.rest[0]
	r.rest = r.rest[1:]
	return c, true
}

// hex reads two hexadecimal digits.
func (r *reader) hex() (byte, bool) {
	if len(r.rest) < 2 {
		return 0, false
	}
	high, okHigh := digit(r.rest[0])
	low, okLow := digit(r.rest[1])
	r.rest = r.rest[2:]
	return high<<4 | low, okHigh && okLow
}

func digit(c byte) (byte, bool) {
	for i, d := range digits {
		if c == d {
			return byte(i), true
		}
	}
	return 0, false
}

func (r *reader) float() (api.Item, bool) {
	x := api.Item{Kind: api.KindFloat}
	for range 8 {
		c, ok := r.hex()
		if !ok {
			return api.Item{}, false
		}
		x.N = x.N<<8 | uint64(c)
	}
	return x, r.take("'")
}

func (r *reader) elements(within int) (api.Item, bool) {
	x := api.Item{Kind: api.KindArray}
	for !r.take("]") {
		y, ok := r.next(len(x.Items) == 0, within)
		if !ok {
			return api.Item{}, false
		}
		x.Items = append(x.Items, y)
	}
	return x, true
}

func (r *reader) pairs(within int) (api.Item, bool) {
	x := api.Item{Kind: api.KindMap}
	for !r.take("}") {
		key, ok := r.next(len(x.Items) == 0, within)
		if !ok || !r.take(": ") {
			return api.Item{}, false
		}
		value, ok := r.item(within)
		if !ok {
			return api.Item{}, false
		}
		x.Items = append(x.Items, key, value)
	}
	return x, true
}

// next reads an element; all but the first one follow a comma.
func (r *reader) next(first bool, within int) (api.Item, bool) {
	if !first && !r.take(", ") {
		return api.Item{}, false
	}
	return r.item(within)
}
