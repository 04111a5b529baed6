package power_test

import (
	"bytes"
	"crypto/hmac"
	"crypto/sha256"
	"encoding/binary"
	"encoding/hex"
	"math/big"
	"math/rand"
	"testing"

	"engrosser/api"
	"engrosser/kdf"
	"engrosser/power"
)

const (
	prime = 1<<61 - 1
	most  = 1<<64 - 1
)

// text is n octets that differ from their neighbours.
func text(n int) []byte {
	b := make([]byte, n)
	for i := range b {
		b[i] = byte(i*7 + i>>8 + 1)
	}
	return b
}

// none are no octets, in each way there is of it.
func none() [][]byte {
	return [][]byte{nil, {}, make([]byte, 0, 9)}
}

// roomy is a copy of b with something behind it.
func roomy(b []byte) []byte {
	return append(bytes.Clone(b), bytes.Repeat([]byte{0xee}, 150)...)[:len(b)]
}

// spoil changes each octet of b and of its spare capacity.
func spoil(b []byte) {
	b = b[:cap(b)]
	for i := range b {
		b[i] ^= 255
	}
}

// numbers are those at which something changes: around 0, around the multiples
// of the prime, around powers of two, and at the end.
func numbers() []uint64 {
	all := []uint64{0, 1, 2, 3, 4, 5, 7, 40, 61, 255, 256, 257, 0x0102030405060708, 1e18, most - 1, most}
	for k := uint64(1); k <= 8; k++ {
		for d := uint64(0); d <= 3; d++ {
			all = append(all, k*prime-d, k*prime+d)
		}
	}
	for i := 15; i < 64; i += 8 {
		all = append(all, 1<<i-1, 1<<i, 1<<i+1, 1<<(i+1)-1)
	}
	return append(all, 1<<32-1, 1<<32, 1<<32+1, 1<<60, 1<<62)
}

// some are numbers without a pattern, long and short.
func some(n int) []uint64 {
	r := rand.New(rand.NewSource(7))
	all := make([]uint64, n)
	for i := range all {
		all[i] = r.Uint64() >> r.Intn(64)
	}
	return all
}

func large(n uint64) *big.Int {
	return new(big.Int).SetUint64(n)
}

// product is a times b by Go's own library.
func product(a, b uint64) uint64 {
	n := new(big.Int).Mul(large(a), large(b))
	return n.Mod(n, large(prime)).Uint64()
}

// raised is a to the power n by Go's own library.
func raised(a, n uint64) uint64 {
	return new(big.Int).Exp(large(a), large(n), large(prime)).Uint64()
}

// eight are a number's octets by Go's own library.
func eight(n uint64) []byte {
	return binary.BigEndian.AppendUint64(nil, n)
}

// labelled is the number of a secret: the first tag of the expansion with the
// label "key", laid out by hand.
func labelled(secret []byte) uint64 {
	h := hmac.New(sha256.New, secret)
	h.Write([]byte("\x00\x08\x07mls key\x00\x00\x01"))
	return binary.BigEndian.Uint64(h.Sum(nil))
}

// expectedKey is the private key of a secret.
func expectedKey(secret []byte) uint64 {
	n := new(big.Int).Mod(large(labelled(secret)), large(prime-2))
	return n.Uint64() + 1
}

func checkMul(t *testing.T, a, b uint64) {
	t.Helper()
	if got, want := power.Mul(a, b), product(a, b); got != want || got >= prime {
		t.Errorf("%d times %d: got %d, want %d", a, b, got, want)
	}
}

func checkPow(t *testing.T, a, n uint64) {
	t.Helper()
	if got, want := power.Pow(a, n), raised(a, n); got != want || got >= prime {
		t.Errorf("%d to the power %d: got %d, want %d", a, n, got, want)
	}
}

func checkKey(t *testing.T, secret []byte) {
	t.Helper()
	got := power.Key(secret)
	if want := expectedKey(secret); got != want || got < 1 || got > prime-2 {
		t.Errorf("the key of %d octets: got %d, want %d", len(secret), got, want)
	}
}

// checkShared holds what two share against the octets of the power.
func checkShared(t *testing.T, key, public uint64) {
	t.Helper()
	if got, want := power.Shared(key, public), eight(raised(public, key)); !bytes.Equal(got, want) {
		t.Errorf("key %d, public %d: got %x, want %x", key, public, got, want)
	}
	if !bytes.Equal(power.Shared(key, public), power.Octets(power.Pow(public, key))) {
		t.Errorf("key %d, public %d: not the octets of the power", key, public)
	}
}

// checkSame has two share something, from each side.
func checkSame(t *testing.T, x, y uint64) {
	t.Helper()
	one, other := power.Shared(x, power.Public(y)), power.Shared(y, power.Public(x))
	if !bytes.Equal(one, other) || len(one) != 8 {
		t.Errorf("keys %d and %d: got %x and %x", x, y, one, other)
	}
}

// The tests' prime is the document's, and so is the base.
func TestLimits(t *testing.T) {
	if prime != api.Prime || api.Base != 3 {
		t.Errorf("the prime is %d, the base %d", uint64(api.Prime), api.Base)
	}
}

// P7.1: the document's examples, and products that can be told by hand.
func TestKnownProducts(t *testing.T) {
	tests := []struct{ a, b, want uint64 }{
		{prime - 1, prime - 1, 1},
		{0, 0, 0}, {0, 1, 0}, {0, most, 0}, {1, 1, 1}, {2, 3, 6}, {1, prime - 1, prime - 1},
		{1, prime, 0}, {prime, prime, 0}, {prime, prime - 1, 0}, {prime, prime + 1, 0}, {prime, most, 0}, {prime, 0, 0},
		{2 * prime, 5, 0}, {8 * prime, most, 0}, {8 * prime, 8 * prime, 0},
		{1, prime + 1, 1}, {prime + 1, prime + 1, 1}, {prime + 1, prime - 1, prime - 1}, {prime + 2, prime + 3, 6},
		{most, 1, 7}, {most, most, 49}, {most, prime - 1, prime - 7}, {most, prime + 1, 7},
		{1 << 60, 2, 1}, {1 << 60, 4, 2}, {1 << 63, 1, 4}, {1 << 63, 1 << 63, 16}, {1 << 32, 1 << 32, 8},
		{1 << 31, 1 << 30, 1}, {1<<61 - 2, 2, prime - 2},
	}
	for _, x := range tests {
		if got := power.Mul(x.a, x.b); got != x.want {
			t.Errorf("%d times %d: got %d, want %d", x.a, x.b, got, x.want)
		}
		if got := power.Mul(x.b, x.a); got != x.want {
			t.Errorf("%d times %d: got %d, want %d", x.b, x.a, got, x.want)
		}
	}
}

// P7.1: products of any numbers are those of the library, below the prime.
func TestProducts(t *testing.T) {
	for _, a := range numbers() {
		for _, b := range numbers() {
			checkMul(t, a, b)
		}
	}
	all := some(4000)
	for i, a := range all {
		checkMul(t, a, all[(i*7+3)%len(all)])
		checkMul(t, a, 1)
	}
}

// P7.1: the document's example, and powers that were made by another program
// (Python's pow) or can be told by hand.
func TestKnownPowers(t *testing.T) {
	tests := []struct{ a, n, want uint64 }{
		{3, 40, 628450412988459046},
		{3, 1, 3}, {3, 2, 9}, {3, 38, 1350851717672992089}, {3, 39, 1746712143805282316}, {3, 63, 1373800527469220649},
		{2, 60, 1 << 60}, {2, 61, 1}, {2, 62, 2}, {2, 61 * 1000, 1}, {2, most, 1 << 15},
		{5, prime - 2, 1844674407370955161}, {7, most, 4747561509943}, {most, most, 4747561509943},
		{prime - 1, most, prime - 1}, {prime - 1, most - 1, 1}, {prime + 2, 1e18, 2199023255552},
		{123456789012345678, 987654321098765432, 228779911208474777},
	}
	for _, x := range tests {
		if got := power.Pow(x.a, x.n); got != x.want {
			t.Errorf("%d to the power %d: got %d, want %d", x.a, x.n, got, x.want)
		}
	}
}

// P7.1: to the power 0, every number is 1, and the multiples of the prime are
// too; to every other power these are 0.
func TestPowersOfNothingAndToIt(t *testing.T) {
	for _, a := range numbers() {
		if got := power.Pow(a, 0); got != 1 {
			t.Errorf("%d to the power 0: got %d", a, got)
		}
	}
	for k := uint64(0); k <= 8; k++ {
		for _, n := range numbers() {
			if got := power.Pow(k*prime, n); n != 0 && got != 0 {
				t.Errorf("%d times the prime to the power %d: got %d", k, n, got)
			}
		}
	}
}

// P7.1: exponents around the prime: the power P - 1 of what is no multiple of it
// is 1, and the power P - 2 is what makes 1 of it.
func TestPowersAroundThePrime(t *testing.T) {
	for _, a := range append(numbers(), some(200)...) {
		if a%prime == 0 {
			continue
		}
		if got := power.Mul(power.Pow(a, prime-2), a); got != 1 {
			t.Errorf("%d to the power P - 2, times it: got %d", a, got)
		}
		if got := power.Pow(a, prime-1); got != 1 {
			t.Errorf("%d to the power P - 1: got %d", a, got)
		}
		if got := power.Pow(a, prime); got != a%prime {
			t.Errorf("%d to the power P: got %d", a, got)
		}
		if got := power.Pow(a, most); got != raised(a%prime, 15) {
			t.Errorf("%d to the power 2^64 - 1: got %d", a, got)
		}
	}
}

// P7.1: powers of any numbers are those of the library, below the prime.
func TestPowers(t *testing.T) {
	for _, a := range numbers() {
		for _, n := range numbers() {
			checkPow(t, a, n)
		}
	}
	all := some(2000)
	for i, a := range all {
		checkPow(t, a, all[(i*7+3)%len(all)])
		checkPow(t, a, 1)
	}
}

// P7.1: each power is the one before it, once more.
func TestPowersOneByOne(t *testing.T) {
	for _, a := range []uint64{0, 1, 2, 3, 10, prime - 1, prime + 5, most} {
		want := uint64(1)
		for n := range uint64(300) {
			if got := power.Pow(a, n); got != want {
				t.Errorf("%d to the power %d: got %d, want %d", a, n, got, want)
			}
			want = product(want, a)
		}
	}
}

// P7.1: each bit of an exponent matters.
func TestEveryBitOfAnExponent(t *testing.T) {
	for i := range 64 {
		checkPow(t, 3, 1<<i)
		checkPow(t, 3, most^1<<i)
		if power.Pow(3, 5) == power.Pow(3, 5^1<<i) {
			t.Errorf("bit %d is left out", i)
		}
	}
}

// P7.1: private keys that were made by another program (Python's HMAC), with
// their public keys.
func TestKnownKeys(t *testing.T) {
	tests := []struct {
		secret      []byte
		key, public uint64
	}{
		{nil, 493632069080799598, 2012443967360564552},
		{[]byte("a"), 1514935092797558479, 1698461819911046417},
		{[]byte("b"), 1143308707886319510, 1403620569307361687},
		{text(1000), 2210590106791478426, 30436339287276264},
	}
	for _, x := range tests {
		if got := power.Key(x.secret); got != x.key {
			t.Errorf("the key of %d octets: got %d, want %d", len(x.secret), got, x.key)
		}
		if got := power.Public(x.key); got != x.public {
			t.Errorf("the public key of %d: got %d, want %d", x.key, got, x.public)
		}
	}
}

// P7.1: keys are those of the definition, from 1 to P - 2, for secrets of each
// length, those among them that HMAC makes shorter first.
func TestKeys(t *testing.T) {
	for _, b := range none() {
		checkKey(t, b)
	}
	for n := range 300 {
		checkKey(t, text(n))
		checkKey(t, make([]byte, n))
		checkKey(t, bytes.Repeat([]byte{255}, n))
	}
	for _, n := range []int{1000, 4096, 65535, 65536, 100000} {
		checkKey(t, text(n))
	}
	for i := range 256 {
		checkKey(t, []byte{byte(i)})
	}
}

// P7.1: the number has 64 bits, so that it is up to eight times P - 2; each of
// these cases occurs, and each is reduced by P - 2, not by P - 1 or P.
func TestKeysAreReduced(t *testing.T) {
	var seen [9]int
	for i := range 4000 {
		secret := binary.BigEndian.AppendUint32([]byte("secret"), uint32(i))
		checkKey(t, secret)
		times := labelled(secret) / (prime - 2)
		seen[times]++
		if got := power.Key(secret); got != 1+labelled(secret)-times*(prime-2) {
			t.Errorf("secret %d: got %d", i, got)
		}
	}
	for times, n := range seen[:8] {
		if n == 0 {
			t.Errorf("no number with %d times P - 2 was met", times)
		}
	}
}

// P7.1: a key is made of the labelled secret of layer 4.
func TestKeyIsLabelled(t *testing.T) {
	for _, n := range []int{0, 1, 31, 32, 33, 100} {
		b, ok := kdf.Label(text(n), "key", nil, 8)
		if !ok {
			t.Fatal("no labelled secret")
		}
		if got, want := power.Key(text(n)), 1+binary.BigEndian.Uint64(b)%(prime-2); got != want {
			t.Errorf("%d octets: got %d, want %d", n, got, want)
		}
	}
}

// P7.1: each bit of a secret matters.
func TestEveryBitOfASecret(t *testing.T) {
	for _, n := range []int{1, 32, 64, 65, 150} {
		seen := map[uint64]bool{power.Key(text(n)): true}
		for i := range 8 * n {
			secret := text(n)
			secret[i/8] ^= 1 << (i % 8)
			checkKey(t, secret)
			key := power.Key(secret)
			if seen[key] {
				t.Errorf("%d octets, bit %d: a key that was there", n, i)
			}
			seen[key] = true
		}
	}
}

// P7.1: the length of a secret matters. (Zeros behind one don't, up to 64
// octets: HMAC has it so.)
func TestLengthOfASecret(t *testing.T) {
	seen := map[uint64]int{}
	for n := range 300 {
		key := power.Key(text(n))
		if m, ok := seen[key]; ok {
			t.Errorf("%d octets: the key of %d", n, m)
		}
		seen[key] = n
	}
	if power.Key(make([]byte, 64)) != power.Key(nil) || power.Key(make([]byte, 65)) == power.Key(nil) {
		t.Error("zeros")
	}
}

// P7.1: public keys are powers of 3, for any number.
func TestPublic(t *testing.T) {
	tests := map[uint64]uint64{0: 1, 1: 3, 2: 9, 3: 27, 40: 628450412988459046, prime - 1: 1, prime: 3, prime + 1: 9}
	for key, want := range tests {
		if got := power.Public(key); got != want {
			t.Errorf("the public key of %d: got %d, want %d", key, got, want)
		}
	}
	for _, key := range append(numbers(), some(1000)...) {
		got := power.Public(key)
		if got != raised(3, key) || got != power.Pow(3, key) || got < 1 || got >= prime {
			t.Errorf("the public key of %d: got %d, want %d", key, got, raised(3, key))
		}
	}
	if got := power.Mul(power.Public(prime-2), 3); got != 1 {
		t.Errorf("the public key of P - 2, times 3: got %d", got)
	}
}

// P7.1: public keys are valid from 2 to P - 2.
func TestRight(t *testing.T) {
	tests := map[uint64]bool{
		0: false, 1: false, 2: true, 3: true, 4: true, 1 << 32: true, 1 << 60: true,
		prime - 4: true, prime - 3: true, prime - 2: true, prime - 1: false, prime: false, prime + 1: false, prime + 2: false, prime + 3: false,
		2*prime + 2: false, 1<<63 - 1: false, 1 << 63: false, 1<<63 + 2: false, 8*prime + 2: false, most - 1: false, most: false,
	}
	for public, want := range tests {
		if got := power.Right(public); got != want {
			t.Errorf("%d: got %v", public, got)
		}
	}
	for _, public := range append(numbers(), some(1000)...) {
		want := new(big.Int).Sub(large(prime), large(1)).Cmp(large(public)) > 0 && public != 0 && public != 1
		if got := power.Right(public); got != want {
			t.Errorf("%d: got %v", public, got)
		}
	}
}

// P7.1: the public keys of secrets are valid.
func TestPublicKeysOfSecretsAreRight(t *testing.T) {
	for n := range 300 {
		if public := power.Public(power.Key(text(n))); !power.Right(public) {
			t.Errorf("%d octets: %d isn't right", n, public)
		}
	}
}

// P7.2: eight octets, the most significant first.
func TestOctets(t *testing.T) {
	tests := map[uint64]string{
		0: "0000000000000000", 1: "0000000000000001", 255: "00000000000000ff", 256: "0000000000000100", 258: "0000000000000102",
		65535: "000000000000ffff", 65536: "0000000000010000", 1<<32 - 1: "00000000ffffffff", 1 << 32: "0000000100000000",
		prime - 1: "1ffffffffffffffe", prime: "1fffffffffffffff", prime + 1: "2000000000000000",
		1<<63 - 1: "7fffffffffffffff", 1 << 63: "8000000000000000", most - 1: "fffffffffffffffe", most: "ffffffffffffffff",
		0x0102030405060708: "0102030405060708", 0xfedcba9876543210: "fedcba9876543210",
	}
	for n, want := range tests {
		if got := hex.EncodeToString(power.Octets(n)); got != want {
			t.Errorf("%d: got %s, want %s", n, got, want)
		}
	}
	for _, n := range append(numbers(), some(1000)...) {
		if got := power.Octets(n); !bytes.Equal(got, eight(n)) {
			t.Errorf("%d: got %x", n, got)
		}
	}
}

// P7.2: a shared secret that was made by another program, and ones that can be
// told by hand, those of public keys that aren't valid among them.
func TestKnownShared(t *testing.T) {
	tests := []struct {
		key, public uint64
		want        string
	}{
		{1514935092797558479, 1403620569307361687, "0d9569af3ced5f47"},
		{1143308707886319510, 1698461819911046417, "0d9569af3ced5f47"},
		{1, 258, "0000000000000102"}, {2, 3, "0000000000000009"}, {3, 2, "0000000000000008"}, {60, 2, "1000000000000000"},
		{0, 0, "0000000000000001"}, {0, 5, "0000000000000001"}, {0, prime, "0000000000000001"}, {0, most, "0000000000000001"},
		{1, 0, "0000000000000000"}, {most, 0, "0000000000000000"}, {most, 1, "0000000000000001"},
		{1, prime - 1, "1ffffffffffffffe"}, {2, prime - 1, "0000000000000001"},
		{1, prime, "0000000000000000"}, {5, 8 * prime, "0000000000000000"}, {1, prime + 1, "0000000000000001"}, {1, most, "0000000000000007"},
		{prime - 1, 5, "0000000000000001"}, {prime, 5, "0000000000000005"},
	}
	for _, x := range tests {
		if got := hex.EncodeToString(power.Shared(x.key, x.public)); got != x.want {
			t.Errorf("key %d, public %d: got %s, want %s", x.key, x.public, got, x.want)
		}
	}
}

// P7.2: what is shared is the power's octets, for any numbers.
func TestShared(t *testing.T) {
	for _, key := range numbers() {
		for _, public := range numbers() {
			checkShared(t, key, public)
		}
	}
	all := some(1000)
	for i, key := range all {
		checkShared(t, key, all[(i*7+3)%len(all)])
	}
}

// P7.3: two share the same, whichever of them computes it, for keys of secrets
// and for any other number.
func TestSharedIsTheSame(t *testing.T) {
	for n := range 60 {
		for m := range 60 {
			checkSame(t, power.Key(text(n)), power.Key(text(m)))
		}
	}
	for _, x := range numbers() {
		for _, y := range numbers() {
			checkSame(t, x, y)
		}
	}
	all := some(1000)
	for i, x := range all {
		checkSame(t, x, all[(i*7+3)%len(all)])
	}
}

// P7.3: others don't share it.
func TestOthersShareSomethingElse(t *testing.T) {
	seen := map[string]bool{}
	for n := range 40 {
		for m := range n {
			b := string(power.Shared(power.Key(text(n)), power.Public(power.Key(text(m)))))
			if seen[b] {
				t.Errorf("%d and %d share what others do", n, m)
			}
			seen[b] = true
		}
	}
}

// P7.3: a changed result changes no other result, neither one that was there
// nor a later one.
func TestResultsAreNewMemory(t *testing.T) {
	for _, n := range append(numbers(), some(100)...) {
		for _, run := range []func() []byte{
			func() []byte { return power.Octets(n) },
			func() []byte { return power.Shared(1, n) },
			func() []byte { return power.Shared(n, 3) },
		} {
			first, second := run(), run()
			want := bytes.Clone(second)
			spoil(first)
			// before another call, which could put it right again
			if !bytes.Equal(second, want) {
				t.Errorf("%d: a changed result changed another: %x, want %x", n, second, want)
			}
			if third := run(); !bytes.Equal(third, want) {
				t.Errorf("%d: a changed result changed a later one: %x, want %x", n, third, want)
			}
		}
	}
}

// P7.3: what is appended to a result isn't in another one.
func TestResultsGrowApart(t *testing.T) {
	first, second := power.Octets(1), power.Octets(1)
	grown, other := append(first, 1, 2, 3), append(second, 4, 5, 6)
	if !bytes.Equal(grown, []byte{0, 0, 0, 0, 0, 0, 0, 1, 1, 2, 3}) || !bytes.Equal(other, []byte{0, 0, 0, 0, 0, 0, 0, 1, 4, 5, 6}) {
		t.Errorf("got %x and %x", grown, other)
	}
}

// P7.3: a secret isn't changed, nor what lies in its spare capacity, which is no
// part of it; and nothing of it is kept.
func TestSecretsAreNotChanged(t *testing.T) {
	for _, n := range []int{0, 1, 31, 32, 63, 64, 65, 100, 1000} {
		secret, before := roomy(text(n)), roomy(text(n))
		key := power.Key(secret)
		if key != expectedKey(text(n)) || power.Key(secret) != key {
			t.Errorf("%d octets: got %d, then %d", n, key, power.Key(secret))
		}
		if !bytes.Equal(secret[:cap(secret)], before[:cap(before)]) {
			t.Errorf("%d octets: the secret was changed", n)
		}
		spoil(secret)
		checkKey(t, secret)
		checkKey(t, text(n))
	}
}

// P7.3: a result depends on its own arguments alone, not on calls before it.
func TestCallsAreApart(t *testing.T) {
	all := numbers()
	for i, a := range all {
		b := all[(i*5+3)%len(all)]
		power.Shared(b, a)
		power.Key(eight(b))
		checkMul(t, a, b)
		checkPow(t, a, b)
		checkShared(t, a, b)
		checkKey(t, eight(a))
	}
}

// P7.1, P7.2 and P7.3: any arguments.
func FuzzPower(f *testing.F) {
	f.Add(uint64(0), uint64(0), []byte{})
	f.Add(uint64(prime-1), uint64(prime-2), []byte("a"))
	f.Add(uint64(prime), uint64(most), text(100))
	f.Fuzz(func(t *testing.T, a, b uint64, secret []byte) {
		checkMul(t, a, b)
		checkPow(t, a, b)
		checkKey(t, secret)
		checkShared(t, a, b)
		checkSame(t, a, b)
		if power.Public(a) != raised(3, a) || power.Right(a) != (a > 1 && a < prime-1) || !bytes.Equal(power.Octets(a), eight(a)) {
			t.Errorf("%d: %d, %v, %x", a, power.Public(a), power.Right(a), power.Octets(a))
		}
	})
}
