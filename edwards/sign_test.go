package edwards_test

import (
	"bytes"
	"crypto/ed25519"
	"math/big"
	"math/rand"
	"slices"
	"testing"

	"coresec/api"
	"coresec/edwards"
)

// public returns the result of a call of Public that must succeed.
func public(t *testing.T, seed []byte) []byte {
	t.Helper()
	out, e := edwards.Public(seed)
	if e != api.OK || len(out) != 32 {
		t.Fatalf("Public(%x): %x, error %d", seed, out, e)
	}
	return out
}

// signed returns the result of a call of Sign that must succeed.
func signed(t *testing.T, seed, message []byte) []byte {
	t.Helper()
	out, e := edwards.Sign(seed, message)
	if e != api.OK || len(out) != 64 {
		t.Fatalf("Sign(%x, %x): %x, error %d", seed, message, out, e)
	}
	return out
}

// verified tells of a signature that does not verify.
func verified(t *testing.T, name string, public, message, signature []byte) {
	t.Helper()
	if !edwards.Verify(public, message, signature) {
		t.Errorf("%s: %x of %x does not verify with %x", name, signature, message, public)
	}
}

// rejected tells of a signature that verifies.
func rejected(t *testing.T, name string, public, message, signature []byte) {
	t.Helper()
	if edwards.Verify(public, message, signature) {
		t.Errorf("%s: %x of %x verifies with %x", name, signature, message, public)
	}
}

// P10.2, P10.3, P10.4: the examples of RFC 8032, section 7.1.
func TestPublished(t *testing.T) {
	for _, x := range [][4]string{
		{"9d61b19deffd5a60ba844af492ec2cc44449c5697b326919703bac031cae7f60", "d75a980182b10ab7d54bfed3c964073a0ee172f3daa62325af021a68f707511a", "", "e5564300c360ac729086e2cc806e828a84877f1eb8e5d974d873e065224901555fb8821590a33bacc61e39701cf9b46bd25bf5f0595bbe24655141438e7a100b"},
		{"4ccd089b28ff96da9db6c346ec114e0f5b8a319f35aba624da8cf6ed4fb8a6fb", "3d4017c3e843895a92b70aa74d1b7ebc9c982ccf2ec4968cc0cd55f12af4660c", "72", "92a009a9f0d4cab8720e820b5f642540a2b27b5416503f8fb3762223ebdb69da085ac1e43e15996e458f3613d0f11d8c387b2eaeb4302aeeb00d291612bb0c00"},
		{"c5aa8df43f9f837bedb7442f31dcb7b166d38535076f094b85ce3a2e0b4458f7", "fc51cd8e6218a1a38da47ed00230f0580816ed13ba3303ac5deb911548908025", "af82", "6291d657deec24024827e69c3abe01a30ce548a284743a445e3680d7db5ac3ac18ff9b538d16f290ae67f760984dc6594a7c15e9716ed28dc027beceea1ec40a"},
		{"833fe62409237b9d62ec77587520911e9a759cec1d19755b7da901b96dca3d42", "ec172b93ad5e563bf4932c70e1245034c35467ef2efd4d64ebf819683467e2bf", "ddaf35a193617abacc417349ae20413112e6fa4e89a97ea20a9eeee64b55d39a2192992a274fc1a836ba3c23a3feebbd454d4423643ce80e2a9ac94fa54ca49f", "dc2a4459e7369633a52b1bf277839a00201009a3efbf3ecb69bea2186c26b58909351fc9ac90b3ecfdfbc7c66431e0303dca179c138ac17ad9bef1177331a704"},
	} {
		seed, key, message, want := bytesOf(x[0]), bytesOf(x[1]), bytesOf(x[2]), bytesOf(x[3])
		if got := public(t, seed); !bytes.Equal(got, key) {
			t.Errorf("Public(%x): %x", seed, got)
		}
		if got := signed(t, seed, message); !bytes.Equal(got, want) {
			t.Errorf("Sign(%x, %x): %x", seed, message, got)
		}
		verified(t, "published", key, message, want)
	}
}

// P10.2, P10.3: what the chapter says, step by step.
func TestSteps(t *testing.T) {
	r := rand.New(rand.NewSource(106))
	for i := range 12 {
		seed, message := random(r, 32), random(r, 50*i)
		s, prefix := secret(seed)
		key := encode(multiple(s, base()))
		if got := public(t, seed); !bytes.Equal(got, key[:]) {
			t.Errorf("Public(%x): %x, want %x", seed, got, key)
		}
		n := hashed(prefix, message)
		first := encode(multiple(n, base()))
		k := hashed(first[:], key[:], message)
		want := signature(first, remainder(plus(times(k, s), n), order))
		if got := signed(t, seed, message); !bytes.Equal(got, want) {
			t.Errorf("Sign(%x, %x): %x, want %x", seed, message, got, want)
		}
		verified(t, "step by step", key[:], message, want)
	}
}

// P10.2, P10.3, P10.4, Consequences: what the standard library says of the same calls; what was signed verifies.
func TestStandard(t *testing.T) {
	r := rand.New(rand.NewSource(107))
	for i := range 150 {
		seed, message := random(r, 32), random(r, 2*i)
		switch i {
		case 0:
			clear(seed)
		case 1:
			seed = bytes.Repeat([]byte{255}, 32)
		case 149:
			message = random(r, 100_000)
		}
		private := ed25519.NewKeyFromSeed(seed)
		key, want := public(t, seed), ed25519.Sign(private, message)
		if !bytes.Equal(key, private[32:]) {
			t.Errorf("Public(%x): %x, want %x", seed, key, private[32:])
		}
		if got := signed(t, seed, message); !bytes.Equal(got, want) {
			t.Errorf("Sign(%x, %x): %x, want %x", seed, message, got, want)
		}
		verified(t, "of the standard library", key, message, want)
	}
}

// P10.2, P10.3, R4: seeds that do not have 32 bytes.
func TestSeeds(t *testing.T) {
	for _, n := range []int{0, 1, 16, 31, 33, 63, 64, 65, 256 + 32, 4096, 1<<16 + 32} {
		for _, seed := range [][]byte{make([]byte, n), bytes.Repeat([]byte{255}, n)} {
			if got, e := edwards.Public(seed); e != api.ErrArg || len(got) != 0 {
				t.Errorf("Public of %d bytes: %x, error %d", n, got, e)
			}
			for _, message := range [][]byte{nil, make([]byte, 32)} {
				if got, e := edwards.Sign(seed, message); e != api.ErrArg || len(got) != 0 {
					t.Errorf("Sign with %d bytes: %x, error %d", n, got, e)
				}
			}
		}
	}
	if got, e := edwards.Public(nil); e != api.ErrArg || len(got) != 0 {
		t.Errorf("Public(nil): %x, error %d", got, e)
	}
	if got, e := edwards.Sign(nil, nil); e != api.ErrArg || len(got) != 0 {
		t.Errorf("Sign(nil, nil): %x, error %d", got, e)
	}
}

// flip returns b with one other bit.
func flip(b []byte, i int) []byte {
	b = slices.Clone(b)
	b[i/8] ^= 1 << (i % 8)
	return b
}

// P10.4: each bit of the key, of the message and of the signature counts.
func TestVerifyBits(t *testing.T) {
	r := rand.New(rand.NewSource(108))
	seed, message := random(r, 32), random(r, 40)
	key, s := public(t, seed), signed(t, seed, message)
	for i := range 512 {
		rejected(t, "another signature", key, message, flip(s, i))
		if i < 256 {
			rejected(t, "another key", flip(key, i), message, s)
		}
		if i < 8*len(message) {
			rejected(t, "another message", key, flip(message, i), s)
		}
	}
	rejected(t, "exchanged halves", key, message, slices.Concat(s[32:], s[:32]))
	rejected(t, "a longer message", key, append(message, 0), s)
	rejected(t, "a shorter message", key, message[:39], s)
	rejected(t, "no message", key, nil, s)
	verified(t, "unchanged", key, message, s)
}

// P10.4: keys that do not have 32 bytes, and signatures that do not have 64.
func TestVerifyLengths(t *testing.T) {
	r := rand.New(rand.NewSource(109))
	seed, message := random(r, 32), random(r, 10)
	key, s := public(t, seed), signed(t, seed, message)
	long := slices.Concat(key, make([]byte, 300))
	for _, n := range []int{0, 1, 31, 33, 64, 256 + 32} {
		rejected(t, "a wrong length of the key", long[:n], message, s)
	}
	long = slices.Concat(s, make([]byte, 300))
	for _, n := range []int{0, 1, 32, 63, 65, 96, 128, 256 + 64} {
		rejected(t, "a wrong length of the signature", key, message, long[:n])
	}
	for n := range 40 { // a longer key, for which the equation would hold
		m, message := whole(random(r, 31)), random(r, 10)
		secret, _ := secret(seed)
		first, long := encode(multiple(m, base())), slices.Concat(key, make([]byte, n))
		k := hashed(first[:], long, message)
		s := signature(first, remainder(plus(m, times(k, secret)), order))
		if got := edwards.Verify(long, message, s); got != (n == 0) {
			t.Errorf("a key with %d bytes more: %t", n, got)
		}
	}
	rejected(t, "nothing", nil, nil, nil)
	rejected(t, "no key", nil, message, s)
	rejected(t, "no signature", key, message, nil)
	rejected(t, "a key of the length of a signature", long[:64], message, s)
}

// P10.4, Consequences: no number but S does, neither those that are S modulo q nor its neighbors, nor their opposites. Of the numbers S some are low, so that S + q has the same highest byte as q.
func TestVerifySecond(t *testing.T) {
	r := rand.New(rand.NewSource(110))
	low := 0
	for i := 0; i < 5 || low < 2; i++ {
		seed, message := random(r, 32), random(r, 20)
		key, s := public(t, seed), signed(t, seed, message)
		first, n := api.Field(s[:32]), whole(s[32:])
		if n.BitLen() <= 248 {
			low++
		} else if i >= 5 {
			continue
		}
		for m := plus(n, order); m.Cmp(top) < 0; m = plus(m, order) {
			rejected(t, "S and a multiple of q", key, message, signature(first, m))
		}
		for _, d := range []int64{-2, -1, 1, 2} {
			rejected(t, "near S", key, message, signature(first, remainder(plus(n, big.NewInt(d)), order)))
		}
		rejected(t, "- S", key, message, signature(first, minus(order, n)))
		rejected(t, "0", key, message, signature(first, new(big.Int)))
	}
}

// follows reports whether the equation of the chapter holds, for a key that decodes.
func follows(key api.Field, message, s []byte) bool {
	a, _ := decode(key)
	k := hashed(s[:32], key[:], message)
	want := encode(sum(multiple(whole(s[32:]), base()), opposite(multiple(k, a))))
	return bytes.Equal(want[:], s[:32])
}

// P10.4: keys that are the sum of a good one and of a point of small order. The equation has no factor 8, and k is taken modulo q before the key is multiplied; both matter for such keys.
func TestVerifyMixed(t *testing.T) {
	r := rand.New(rand.NewSource(111))
	yes, no := 0, 0
	for i, small := range smallest() {
		for j := range 8 {
			n, m, message := whole(random(r, 31)), whole(random(r, 31)), random(r, 9)
			key := encode(sum(multiple(n, base()), small))
			first := encode(sum(multiple(m, base()), smallest()[j]))
			k := hashed(first[:], key[:], message)
			s := signature(first, remainder(plus(m, times(k, n)), order))
			want := remainder(plus(times(k, big.NewInt(int64(i))), big.NewInt(int64(j))), big.NewInt(8)).Sign() == 0 // S B - k A - R is -(k i + j) times the point of order 8
			if want != follows(key, message, s) {
				t.Fatal("the reference is wrong")
			}
			if got := edwards.Verify(key[:], message, s); got != want {
				t.Errorf("key with %d, first half with %d: %t", i, j, got)
			}
			if want {
				yes++
			} else {
				no++
			}
		}
	}
	if yes < 5 || no < 5 {
		t.Errorf("%d verify, %d do not", yes, no)
	}
}

// messageFor returns a message for which the equation holds for a key of small order, with this first half and S.
func messageFor(t *testing.T, key api.Field, s []byte) []byte {
	t.Helper()
	for i := range 200 {
		if message := []byte{byte(i)}; follows(key, message, s) {
			return message
		}
	}
	t.Fatalf("no message for %x", key)
	return nil
}

// P10.4: keys of small order, also where the equation holds.
func TestVerifySmall(t *testing.T) {
	r := rand.New(rand.NewSource(112))
	n := remainder(whole(random(r, 32)), order)
	for _, small := range smallest() {
		key := encode(small)
		for _, s := range [][]byte{signature(encode(multiple(n, base())), n), signature(api.Field{1}, new(big.Int))} {
			rejected(t, "a key of small order", key[:], messageFor(t, key, s), s)
		}
	}
}

// P10.4: keys that do not decode, among them other numbers for the point of small order with which the equation would hold.
func TestVerifyKeys(t *testing.T) {
	r := rand.New(rand.NewSource(113))
	n := remainder(whole(random(r, 32)), order)
	s := signature(encode(multiple(n, base())), n)
	neutral := plus(prime, one)
	for _, key := range []api.Field{{0: 1, 31: 128}, element(neutral), element(plus(neutral, power(255))), element(prime), element(plus(prime, power(255))), {2}} {
		for i := range byte(20) {
			rejected(t, "a key that does not decode", key[:], []byte{i}, s)
		}
	}
}

// P10.4: the first half is compared as an encoding: the neutral point has one, though others would be read as the same point.
func TestVerifyFirst(t *testing.T) {
	r := rand.New(rand.NewSource(114))
	n, message := whole(random(r, 31)), random(r, 20)
	key := encode(multiple(n, base()))
	neutral := plus(prime, one)
	for _, x := range []struct {
		first api.Field
		want  bool
	}{{api.Field{1}, true}, {api.Field{0: 1, 31: 128}, false}, {element(neutral), false}, {element(plus(neutral, power(255))), false}} {
		k := hashed(x.first[:], key[:], message)
		s := signature(x.first, remainder(times(k, n), order))
		if got := edwards.Verify(key[:], message, s); got != x.want {
			t.Errorf("first half %x: %t", x.first, got)
		}
	}
}

// P10.3, P10.4: what one has signed does not verify for another; the same message has the same signature, and others have others.
func TestOthers(t *testing.T) {
	r := rand.New(rand.NewSource(115))
	a, b := random(r, 32), random(r, 32)
	seen := map[string]bool{}
	for i := range 20 {
		message := random(r, i)
		s := signed(t, a, message)
		rejected(t, "of another one", public(t, b), message, s)
		if !bytes.Equal(signed(t, a, message), s) {
			t.Errorf("two signatures of %x", message)
		}
		seen[string(s[:32])] = true
	}
	if len(seen) != 20 {
		t.Errorf("%d first halves", len(seen))
	}
}

// R2, R3: bytes are neither changed nor kept, results are new, and the same call has the same result.
func TestArguments(t *testing.T) {
	r := rand.New(rand.NewSource(116))
	memory := random(r, 400)
	seed, message, key, s := memory[10:42], memory[50:90], memory[100:132], memory[150:214] // more bytes follow, within the capacity
	copy(key, public(t, seed))
	copy(s, signed(t, seed, message))
	kept := slices.Clone(memory)
	x, y := public(t, seed), signed(t, seed, message)
	before := slices.Concat(x, y)
	verified(t, "in the same memory", key, message, s)
	if !bytes.Equal(memory, kept) {
		t.Error("arguments have changed")
	}
	for _, b := range [][]byte{public(t, seed), signed(t, seed, message)} {
		clear(append(b, make([]byte, 200)...))
		clear(b)
	}
	if !bytes.Equal(memory, kept) || !bytes.Equal(slices.Concat(x, y), before) {
		t.Error("a result shares memory with an argument or another result")
	}
	clear(memory)
	if !bytes.Equal(slices.Concat(x, y), before) {
		t.Error("a result has changed with the arguments")
	}
	copy(memory, kept)
	if !bytes.Equal(slices.Concat(public(t, seed), signed(t, seed, message)), before) {
		t.Error("the same calls have other results")
	}
	verified(t, "again", key, message, s)
	if all := slices.Clone(seed); !bytes.Equal(signed(t, seed, seed), signed(t, all, seed)) {
		t.Error("Sign with the same bytes twice")
	}
	if got := signed(t, seed, []byte{}); !bytes.Equal(got, signed(t, seed, nil)) {
		t.Errorf("Sign of no bytes: %x", got)
	}
}
