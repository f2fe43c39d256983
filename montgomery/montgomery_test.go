package montgomery_test

import (
	"bytes"
	"crypto/ecdh"
	"math/big"
	"math/rand"
	"slices"
	"testing"

	"coresec/api"
	"coresec/montgomery"
)

// public returns the result of a call of Public that must succeed.
func public(t *testing.T, k []byte) []byte {
	t.Helper()
	out, e := montgomery.Public(k)
	if e != api.OK || len(out) != 32 {
		t.Fatalf("Public(%x): %x, error %d", k, out, e)
	}
	return out
}

// shared returns the result of a call of Shared that must succeed.
func shared(t *testing.T, k, u []byte) []byte {
	t.Helper()
	out, e := montgomery.Shared(k, u)
	if e != api.OK || len(out) != 32 {
		t.Fatalf("Shared(%x, %x): %x, error %d", k, u, out, e)
	}
	return out
}

// check compares Mult, Shared and Public with a number that is known.
func check(t *testing.T, k, u, want api.Field) {
	t.Helper()
	if got := montgomery.Mult(k, u); got != want {
		t.Errorf("Mult(%x, %x): %x, want %x", k, u, got, want)
	}
	if want == (api.Field{}) {
		weak(t, k[:], u[:])
	} else if got := shared(t, k[:], u[:]); !bytes.Equal(got, want[:]) {
		t.Errorf("Shared(%x, %x): %x, want %x", k, u, got, want)
	}
	if u != (api.Field{9}) {
		return
	}
	if got := public(t, k[:]); !bytes.Equal(got, want[:]) {
		t.Errorf("Public(%x): %x, want %x", k, got, want)
	}
}

// weak tells of a call of Shared that does not fail as it should.
func weak(t *testing.T, k, u []byte) {
	t.Helper()
	if got, e := montgomery.Shared(k, u); e != api.ErrWeak || len(got) != 0 {
		t.Errorf("Shared(%x, %x): %x, error %d, want error %d", k, u, got, e, api.ErrWeak)
	}
}

// numbers returns keys and coordinates that are special: around 0, p, 2^255 and 2^256, single bits and all but single bits.
func numbers() []api.Field {
	var out []api.Field
	for _, n := range []*big.Int{new(big.Int), big.NewInt(9), order, prime, plus(prime, big.NewInt(9)), power(255), plus(prime, prime), top} {
		for d := int64(-3); d <= 3; d++ {
			if m := plus(n, big.NewInt(d)); m.Sign() >= 0 && m.Cmp(top) < 0 {
				out = append(out, element(m))
			}
		}
	}
	for i := 0; i < 256; i += 15 {
		out = append(out, element(power(i)), element(minus(minus(top, one), power(i))))
	}
	return out
}

// P9.1: each bit for itself, set among bits that are not, and the other way around.
func TestClampBits(t *testing.T) {
	low, high := api.Field{31: 64}, api.Field(bytes.Repeat([]byte{255}, 32))
	high[0], high[31] = 0xf8, 0x7f
	for i := range 256 {
		x := element(power(i))
		set, not := low, high
		switch i {
		case 0, 1, 2, 254, 255:
		default:
			set[i/8] |= 1 << (i % 8)
			not[i/8] &^= 1 << (i % 8)
		}
		if got := montgomery.Clamp(x); got != set {
			t.Errorf("Clamp of bit %d: %x, want %x", i, got, set)
		}
		for j := range x {
			x[j] = ^x[j]
		}
		if got := montgomery.Clamp(x); got != not {
			t.Errorf("Clamp of all but bit %d: %x, want %x", i, got, not)
		}
	}
	if got := montgomery.Clamp(api.Field{}); got != low {
		t.Errorf("Clamp of 0: %x", got)
	}
	if got := montgomery.Clamp(api.Field(bytes.Repeat([]byte{255}, 32))); got != high {
		t.Errorf("Clamp of all bits: %x", got)
	}
}

// P9.1: any numbers; what is clamped remains as it is.
func TestClamp(t *testing.T) {
	r := rand.New(rand.NewSource(90))
	for range 2000 {
		x := random(r)
		got := montgomery.Clamp(x)
		if got != element(clamped(whole(x))) || montgomery.Clamp(got) != got {
			t.Errorf("Clamp(%x): %x", x, got)
		}
	}
}

// P9.1: the examples of RFC 7748, section 5.2.
func TestMultExamples(t *testing.T) {
	for _, x := range [][3]string{
		{"a546e36bf0527c9d3b16154b82465edd62144c0ac1fc5a18506a2244ba449ac4", "e6db6867583030db3594c1a424b15f7c726624ec26b3353b10a903a6d0ab1c4c", "c3da55379de9c6908e94ea4df28d084f32eccf03491c71f754b4075577a28552"},
		{"4b66e9d4d1b4673c5ad22691957d6af5c11b6421e0ea01d42ca4169e7918ba0d", "e5210f12786811d3f4b7959d0538ae2c31dbe7106fc03c3efc4cd549c715a493", "95cbde9476e8907d7aade45cb4b873f88b595a68799fa152e6f8f7647aac7957"},
	} {
		check(t, hx(x[0]), hx(x[1]), hx(x[2]))
	}
	k, u := api.Field{9}, api.Field{9}
	for i := range 1000 {
		k, u = montgomery.Mult(k, u), k
		if i == 0 && k != hx("422c8e7a6227d7bca1350b3e2bb7279f7897b87bb6854b783c60e80311ae3079") {
			t.Errorf("Mult of 9 and 9: %x", k)
		}
	}
	if k != hx("684cf59ba83309552800ef566f2f4d3c1c3887c49360e3875f2eb94d99532c51") {
		t.Errorf("after 1000 times: %x", k)
	}
}

// P9.2: the example of RFC 7748, section 6.1.
func TestPublicExample(t *testing.T) {
	a, b := hx("77076d0a7318a57d3c16c17251b26645df4c2f87ebc0992ab177fba51db92c2a"), hx("5dab087e624a8a4b79e17f8b83800ee66f3bb1292618b6fd1c2f8b27ff88e0eb")
	x, y := hx("8520f0098930a754748b7ddcb43ef75a0dbf3a0d26381af4eba4a98eaa9b4e6a"), hx("de9edb7d7b7dc1b4d35b61c2ece435373f8343c85b78674dadfc7e146f882b4f")
	both := hx("4a5d9d5ba4ce2de1728e3bf480350f25e07e21c947d19e3376f09b3c1e161742")
	check(t, a, api.Field{9}, x)
	check(t, b, api.Field{9}, y)
	check(t, a, y, both)
	check(t, b, x, both)
}

// P9.1: numbers on the curve and others, special ones and any, compared with sums of points on curves with two coordinates.
func TestMult(t *testing.T) {
	r := rand.New(rand.NewSource(91))
	on, off := 0, 0
	compare := func(k, u api.Field) {
		t.Helper()
		check(t, k, u, want(k, u))
		if c, _ := start(modulo(new(big.Int).SetBit(whole(u), 255, 0))); big.Jacobi(c.s, prime) == 1 {
			on++
		} else {
			off++
		}
	}
	for _, x := range numbers() {
		compare(x, random(r))
		compare(random(r), x)
		compare(x, api.Field{9})
	}
	for i := range 40 {
		compare(random(r), random(r))
		compare(random(r), api.Field{byte(i)})
	}
	if on < 50 || off < 50 {
		t.Errorf("%d numbers are on the curve, %d are not", on, off)
	}
}

// P9.1: keys near multiples of the order of a point, so that the ladder ends at the point at infinity or near it, and the k-fold is one of few.
func TestMultNearOrder(t *testing.T) {
	found := 0
	for _, x := range []struct{ u, order *big.Int }{
		{big.NewInt(9), order},
		{multiple(big.NewInt(8), big.NewInt(16)), order}, // a multiple of 8 of a number on the curve, and of 4 of one that is not
		{multiple(big.NewInt(4), big.NewInt(2)), twist},
	} {
		if multiple(x.order, x.u).Sign() != 0 {
			t.Fatalf("the order of %d is not %d", x.u, x.order)
		}
		for i := range int64(8) {
			for d := int64(-24); d <= 24; d++ {
				k := plus(times(x.order, big.NewInt(i)), big.NewInt(d))
				if k.Sign() < 0 || clamped(k).Cmp(k) != 0 {
					continue
				}
				found++
				check(t, element(k), element(x.u), element(multiple(new(big.Int).Abs(big.NewInt(d)), x.u)))
			}
		}
	}
	if found < 40 {
		t.Errorf("%d keys", found)
	}
	k := element(minus(times(order, big.NewInt(5)), one)) // a key for which Public returns what it began with
	check(t, k, api.Field{9}, api.Field{9})
}

// P9.1: which bits of k and of u count.
func TestMultBits(t *testing.T) {
	r := rand.New(rand.NewSource(92))
	k, u := random(r), random(r)
	before := montgomery.Mult(k, u)
	for i := range 256 {
		other := k
		other[i/8] ^= 1 << (i % 8)
		free := i < 3 || i > 253
		if got := montgomery.Mult(other, u); (got == before) != free {
			t.Errorf("Mult with another bit %d of k: %x, before it was %x", i, got, before)
		}
		other = u
		other[i/8] ^= 1 << (i % 8)
		if got := montgomery.Mult(k, other); (got == before) != (i == 255) {
			t.Errorf("Mult with another bit %d of u: %x, before it was %x", i, got, before)
		}
	}
}

// P9.1: the numbers from p to 2^255 - 1 are those from 0 to 18, and bit 255 changes nothing.
func TestMultReduced(t *testing.T) {
	r := rand.New(rand.NewSource(93))
	for i := range int64(19) {
		k, u := random(r), big.NewInt(i)
		x := want(k, element(u))
		for _, n := range []*big.Int{u, plus(u, prime)} {
			check(t, k, element(n), x)
			check(t, k, element(plus(n, power(255))), x)
		}
	}
}

// P9.1, P9.2: what the standard library says of the same calls.
func TestStandard(t *testing.T) {
	r := rand.New(rand.NewSource(94))
	special := numbers()
	for i := range 1000 {
		k, u := random(r), random(r)
		if i%3 == 1 {
			k = special[r.Intn(len(special))]
		}
		if i%3 == 2 {
			u = special[r.Intn(len(special))]
		}
		private, err := ecdh.X25519().NewPrivateKey(k[:])
		if err != nil {
			t.Fatal(err)
		}
		if got := public(t, k[:]); !bytes.Equal(got, private.PublicKey().Bytes()) {
			t.Errorf("Public(%x): %x, want %x", k, got, private.PublicKey().Bytes())
		}
		other, err := ecdh.X25519().NewPublicKey(u[:])
		if err != nil {
			t.Fatal(err)
		}
		x, err := private.ECDH(other)
		if err != nil { // a point of small order
			check(t, k, u, api.Field{})
		} else {
			check(t, k, u, api.Field(x))
		}
	}
}

// small returns the x-coordinates of the points of small order, of both curves.
func small() []*big.Int {
	return []*big.Int{
		new(big.Int),
		one,
		minus(prime, one),
		whole(hx("e0eb7a7c3b41b8ae1656e3faf19fc46ada098deb9c32b1fd866205165f49b800")),
		whole(hx("5f9c95bca3508c24b1d0b1559c83ef5b04445cc4581c8e86d8224eddd09f1157")),
	}
}

// P9.2, Consequences: a point of small order gives 0, whatever k is and however its number is written; its neighbors do not.
func TestWeak(t *testing.T) {
	r := rand.New(rand.NewSource(95))
	keys := append(numbers(), random(r), random(r))
	for _, n := range small() {
		if multiple(big.NewInt(8), n).Sign() != 0 {
			t.Fatalf("the order of %d is not small", n)
		}
		for m := n; m.Cmp(power(255)) < 0; m = plus(m, prime) {
			for _, u := range []api.Field{element(m), element(plus(m, power(255)))} {
				for _, k := range keys {
					check(t, k, u, api.Field{})
				}
			}
		}
		for _, d := range []int64{-2, -1, 1, 2} {
			m := modulo(plus(n, big.NewInt(d)))
			if slices.ContainsFunc(small(), func(x *big.Int) bool { return x.Cmp(m) == 0 }) {
				continue
			}
			u := element(m)
			shared(t, keys[0][:], u[:])
		}
	}
}

// P9.2, R4: keys and numbers that do not have 32 bytes, also where the result would be 0.
func TestErrors(t *testing.T) {
	r := rand.New(rand.NewSource(96))
	for _, n := range []int{0, 1, 8, 16, 31, 33, 63, 64, 65, 256 + 32, 4096, 1<<16 + 32} {
		for _, b := range [][]byte{make([]byte, n), bytes.Repeat([]byte{255}, n), bytes.Repeat([]byte{9}, n)} {
			argument(t, "Public of a wrong length", func() ([]byte, api.Errno) { return montgomery.Public(b) })
			for _, m := range []int{0, 31, 32, 33, n} {
				right := make([]byte, m)
				argument(t, "Shared with a wrong k and a weak u", func() ([]byte, api.Errno) { return montgomery.Shared(b, right) })
				argument(t, "Shared with a wrong u", func() ([]byte, api.Errno) { return montgomery.Shared(right, b) })
				r.Read(right)
				argument(t, "Shared with a wrong k", func() ([]byte, api.Errno) { return montgomery.Shared(b, right) })
			}
		}
	}
	k := random(r)
	argument(t, "Public of nil", func() ([]byte, api.Errno) { return montgomery.Public(nil) })
	argument(t, "Shared of nil", func() ([]byte, api.Errno) { return montgomery.Shared(nil, k[:]) })
	argument(t, "Shared with nil", func() ([]byte, api.Errno) { return montgomery.Shared(k[:], nil) })
	weak(t, k[:], make([]byte, 32))
}

// argument tells of a call that does not fail with ErrArg.
func argument(t *testing.T, name string, call func() ([]byte, api.Errno)) {
	t.Helper()
	if got, e := call(); e != api.ErrArg || len(got) != 0 {
		t.Errorf("%s: %x, error %d, want error %d", name, got, e, api.ErrArg)
	}
}

// P9.2, Consequences: two agree, whatever their keys are; so do three, each of whom has taken a turn, in any order.
func TestAgreement(t *testing.T) {
	r := rand.New(rand.NewSource(97))
	keys := numbers()
	for range 100 {
		keys = append(keys, random(r))
	}
	for i, a := range keys {
		b, c := keys[r.Intn(len(keys))], keys[(i+1)%len(keys)]
		x, y, z := public(t, a[:]), public(t, b[:]), public(t, c[:])
		both := shared(t, a[:], y)
		if other := shared(t, b[:], x); !bytes.Equal(both, other) {
			t.Errorf("%x and %x: %x and %x", a, b, both, other)
		}
		all := shared(t, c[:], both)
		if other := shared(t, a[:], shared(t, b[:], z)); !bytes.Equal(all, other) {
			t.Errorf("%x, %x and %x: %x and %x", a, b, c, all, other)
		}
		if again := shared(t, a[:], public(t, make([]byte, 32))); !bytes.Equal(again, shared(t, make([]byte, 32), x)) {
			t.Errorf("%x and 0: %x", a, again)
		}
	}
}

// P9.2: Public is what Shared and Mult are for 9.
func TestPublic(t *testing.T) {
	r := rand.New(rand.NewSource(98))
	nine := api.Field{9}
	for range 300 {
		k := random(r)
		clamp := montgomery.Clamp(k)
		got, x := public(t, k[:]), montgomery.Mult(k, nine)
		if !bytes.Equal(got, x[:]) || !bytes.Equal(got, shared(t, k[:], nine[:])) || !bytes.Equal(got, public(t, clamp[:])) {
			t.Errorf("Public(%x): %x", k, got)
		}
	}
}

// R2, R3: bytes are neither changed nor kept, results are new, and the same call has the same result.
func TestArguments(t *testing.T) {
	r := rand.New(rand.NewSource(99))
	memory := make([]byte, 100)
	r.Read(memory)
	k, u := memory[10:42], memory[50:82] // more bytes follow, within the capacity
	kept := slices.Clone(memory)
	x, y := public(t, k), shared(t, k, u)
	before := slices.Concat(x, y)
	if !bytes.Equal(memory, kept) {
		t.Error("arguments have changed")
	}
	again, other := public(t, k), shared(t, k, u)
	for _, b := range [][]byte{again, other} {
		clear(append(b, make([]byte, 100)...))
		clear(b)
	}
	if !bytes.Equal(memory, kept) || !bytes.Equal(slices.Concat(x, y), before) {
		t.Error("a result shares memory with an argument or another result")
	}
	clear(memory)
	if !bytes.Equal(slices.Concat(x, y), before) {
		t.Error("a result has changed with the arguments")
	}
	copy(memory, kept)
	if !bytes.Equal(slices.Concat(public(t, k), shared(t, k, u)), before) {
		t.Error("the same calls have other results")
	}
	if same := slices.Clone(k); !bytes.Equal(shared(t, k, k), shared(t, same, k)) {
		t.Error("Shared with the same bytes twice")
	}
}
