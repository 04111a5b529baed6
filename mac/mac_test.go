package mac_test

import (
	"bytes"
	"crypto/hmac"
	"crypto/sha256"
	"encoding/hex"
	"math/rand"
	"strings"
	"testing"
	"time"

	"engrosser/mac"
)

// text is n octets that differ from their neighbours.
func text(n int) []byte {
	b := make([]byte, n)
	for i := range b {
		b[i] = byte(i*7 + i>>8 + 1)
	}
	return b
}

// library is the tag as Go's own library has it.
func library(key []byte, parts ...[]byte) []byte {
	h := hmac.New(sha256.New, key)
	for _, part := range parts {
		h.Write(part)
	}
	return h.Sum(nil)
}

// P3.1: tags that are published (RFC 4231), with the document's example.
func TestPublishedTags(t *testing.T) {
	counting := "\x01\x02\x03\x04\x05\x06\x07\x08\x09\x0a\x0b\x0c\x0d\x0e\x0f\x10\x11\x12\x13\x14\x15\x16\x17\x18\x19"
	tests := []struct{ key, in, want string }{
		{strings.Repeat("\x0b", 20), "Hi There", "b0344c61d8db38535ca8afceaf0bf12b881dc200c9833da726e9376c2e32cff7"},
		{"Jefe", "what do ya want for nothing?", "5bdcc146bf60754e6a042426089575c75a003f089d2739839dec58b964ec3843"},
		{strings.Repeat("\xaa", 20), strings.Repeat("\xdd", 50), "773ea91e36800e46854db8ebd09181a72959098b3ef8c122d9635514ced565fe"},
		{counting, strings.Repeat("\xcd", 50), "82558a389a443c0ea4cc819899f2083a85f0faa3e578f8077a2e3ff46729665b"},
		{strings.Repeat("\xaa", 131), "Test Using Larger Than Block-Size Key - Hash Key First", "60e431591ee0b67f0d8a26aacbf5b77f8e0bc6213728c5140546040f0ee37f54"},
		{strings.Repeat("\xaa", 131), "This is a test using a larger than block-size key and a larger than block-size data. The key needs to be hashed before being used by the HMAC algorithm.", "9b09ffa71b942fcb27635fbcd5b0e944bfdc63644f0713938a7f51535c3a35e2"},
		{"", "", "b613679a0814d9ec772f95d778c35fc5ff1697c493715653c6c712144292c5ad"},
	}
	for _, x := range tests {
		if got := hex.EncodeToString(mac.Tag([]byte(x.key), []byte(x.in))); got != x.want {
			t.Errorf("%q with %q: got %s", x.in, x.key, got)
		}
	}
}

// P3.1: keys of every length, around the one above which the key's digest
// stands for it (64 to 65) and around the digest's own length.
func TestLengthsOfKeys(t *testing.T) {
	for n := range 300 {
		for _, in := range [][]byte{nil, text(1), text(100)} {
			if got := mac.Tag(text(n), in); !bytes.Equal(got, library(text(n), in)) {
				t.Errorf("a key of %d octets, %d octets: got %x", n, len(in), got)
			}
		}
	}
}

// P3.1: a key of more than 64 octets has the tags of its digest, one of 64 its own.
func TestDigestStandsForLongKey(t *testing.T) {
	for _, n := range []int{63, 64, 65, 66, 128, 1000} {
		digest := sha256.Sum256(text(n))
		alike := bytes.Equal(mac.Tag(text(n), text(9)), mac.Tag(digest[:], text(9)))
		if alike != (n > 64) {
			t.Errorf("a key of %d octets: the tags of its digest: %v", n, alike)
		}
	}
}

// P3.1: without an octet of a key there is a tag too, whichever way there is none.
func TestNoKey(t *testing.T) {
	want := library(nil, text(70))
	for i, key := range [][]byte{nil, {}, make([]byte, 0, 70)} {
		if got := mac.Tag(key, text(70)); !bytes.Equal(got, want) {
			t.Errorf("%d: got %x", i, got)
		}
	}
}

// P3.1: without an octet there is a tag too, whichever way there is none.
func TestNoOctets(t *testing.T) {
	for _, n := range []int{0, 4, 64, 65} {
		want := library(text(n))
		for i, parts := range [][][]byte{nil, {}, {nil}, {{}}, {nil, {}, nil}, {make([]byte, 0, 9)}} {
			if got := mac.Tag(text(n), parts...); !bytes.Equal(got, want) {
				t.Errorf("a key of %d octets, %d: got %x", n, i, got)
			}
		}
	}
}

// P3.1: every length of the input.
func TestLengthsOfInputs(t *testing.T) {
	for n := range 300 {
		if got := mac.Tag([]byte("Jefe"), text(n)); !bytes.Equal(got, library([]byte("Jefe"), text(n))) {
			t.Errorf("%d octets: got %x", n, got)
		}
	}
}

// P3.1: each bit of the key and of the input matters.
func TestEveryBitMatters(t *testing.T) {
	for _, n := range []int{1, 63, 64, 65, 100} {
		key, in := text(n), text(40)
		plain := mac.Tag(key, in)
		for i := range 8 * n {
			key[i/8] ^= 1 << (i % 8)
			if got := mac.Tag(key, in); bytes.Equal(got, plain) || !bytes.Equal(got, library(key, in)) {
				t.Errorf("a key of %d octets, its bit %d changed: got %x", n, i, got)
			}
			key[i/8] ^= 1 << (i % 8)
		}
		for i := range 8 * len(in) {
			in[i/8] ^= 1 << (i % 8)
			if got := mac.Tag(key, in); bytes.Equal(got, plain) || !bytes.Equal(got, library(key, in)) {
				t.Errorf("a key of %d octets, bit %d changed: got %x", n, i, got)
			}
			in[i/8] ^= 1 << (i % 8)
		}
	}
}

// P3.1: the parts are joined, wherever they are divided, with empty ones
// between them.
func TestParts(t *testing.T) {
	key := text(20)
	for _, n := range []int{0, 1, 28, 55, 56, 63, 64, 65, 130} {
		in := text(n)
		want := library(key, in)
		for i := range n + 1 {
			if got := mac.Tag(key, in[:i], in[i:]); !bytes.Equal(got, want) {
				t.Errorf("%d octets, divided at %d: got %x", n, i, got)
			}
			if got := mac.Tag(key, nil, in[:i], nil, []byte{}, in[i:], nil); !bytes.Equal(got, want) {
				t.Errorf("%d octets, divided at %d with empty parts: got %x", n, i, got)
			}
		}
	}
}

// P3.1: parts of any sizes, single octets among them, with keys of any length.
func TestManyParts(t *testing.T) {
	r := rand.New(rand.NewSource(3))
	for i := range 300 {
		key, in := text(r.Intn(140)), text(r.Intn(500))
		most := 1 + r.Intn(100)
		var parts [][]byte
		for rest := in; len(rest) > 0; {
			n := min(len(rest), r.Intn(most+1))
			parts = append(parts, rest[:n])
			rest = rest[n:]
		}
		if got := mac.Tag(key, parts...); !bytes.Equal(got, library(key, in)) {
			t.Errorf("%d: a key of %d octets, %d octets in %d parts: got %x", i, len(key), len(in), len(parts), got)
		}
	}
}

// P3.1: the parts are joined in their order, and the key is none of them.
func TestOrder(t *testing.T) {
	key, a, b := text(5), text(70), text(3)
	if got := mac.Tag(key, a, b); !bytes.Equal(got, library(key, a, b)) || bytes.Equal(got, mac.Tag(key, b, a)) {
		t.Errorf("got %x", got)
	}
	if got := mac.Tag(key, key, key); !bytes.Equal(got, library(key, key, key)) {
		t.Errorf("the key as a part: got %x", got)
	}
	if bytes.Equal(mac.Tag(a, b), mac.Tag(b, a)) {
		t.Error("key and part may be exchanged")
	}
}

// P3.1: octets that are alike, and not the same memory.
func TestSame(t *testing.T) {
	for _, n := range []int{0, 1, 2, 16, 31, 32, 33, 255, 256, 1000} {
		if a := text(n); !mac.Same(a, text(n)) || !mac.Same(a, a) {
			t.Errorf("%d octets are not alike", n)
		}
	}
	for i, pair := range [][2][]byte{{nil, nil}, {nil, {}}, {{}, nil}, {{}, {}}, {make([]byte, 0, 5), nil}} {
		if !mac.Same(pair[0], pair[1]) {
			t.Errorf("%d: no octets are not alike", i)
		}
	}
	if key := []byte("Jefe"); !mac.Same(mac.Tag(key, text(9)), mac.Tag(key, text(4), text(9)[4:])) {
		t.Error("two tags of one text are not alike")
	}
}

// P3.1: each bit of each octet is compared, the first's and the last's too.
func TestSameComparesEveryBit(t *testing.T) {
	for _, n := range []int{1, 2, 16, 32, 33, 64, 65} {
		a, b := text(n), text(n)
		for i := range 8 * n {
			b[i/8] ^= 1 << (i % 8)
			if mac.Same(a, b) || mac.Same(b, a) {
				t.Errorf("%d octets with another bit %d are alike", n, i)
			}
			b[i/8] ^= 1 << (i % 8)
		}
	}
}

// P3.1: several differences don't cancel each other out, whatever they are.
func TestSameWithSeveralDifferences(t *testing.T) {
	a := text(40)
	for i := range a {
		for k := range i {
			for _, by := range [][2]byte{{1, 1}, {1, 255}, {128, 128}, {255, 255}, {64, 192}} {
				xored, added := bytes.Clone(a), bytes.Clone(a)
				xored[i] ^= by[0]
				xored[k] ^= by[1]
				added[i] += by[0]
				added[k] += by[1]
				if mac.Same(a, xored) || mac.Same(a, added) {
					t.Fatalf("octets that differ at %d and %d by %v are alike", i, k, by)
				}
			}
		}
	}
	for i := 0; i+1 < len(a); i++ {
		swapped := bytes.Clone(a)
		swapped[i], swapped[i+1] = swapped[i+1], swapped[i]
		if mac.Same(a, swapped) {
			t.Errorf("octets %d and %d exchanged are alike", i, i+1)
		}
	}
	// 256 differences of one bit, and 65536, whose sums are 0 in one and in two octets.
	for _, n := range []int{256, 65536} {
		if mac.Same(make([]byte, n), bytes.Repeat([]byte{1}, n)) {
			t.Errorf("%d octets that all differ are alike", n)
		}
	}
}

// P3.1: lengths that differ, though one is the beginning of the other, or the
// rest is zeros, or lies in the spare capacity.
func TestSameWithOtherLengths(t *testing.T) {
	for _, n := range []int{1, 2, 32, 33, 256, 257, 65536} {
		a := text(n)
		for _, b := range [][]byte{nil, {}, a[:n-1], a[1:], a[: n-1 : n-1], append(bytes.Clone(a), 0), append(bytes.Clone(a), a...)} {
			if mac.Same(a, b) || mac.Same(b, a) {
				t.Errorf("%d and %d octets are alike", n, len(b))
			}
		}
		if mac.Same(make([]byte, n), make([]byte, n-1)) || mac.Same(make([]byte, n-1), make([]byte, n)) {
			t.Errorf("%d and %d zeros are alike", n, n-1)
		}
	}
}

// fastest is the shortest time that Same takes in several calls.
func fastest(a, b []byte) time.Duration {
	best := time.Hour
	for range 7 {
		start := time.Now()
		mac.Same(a, b)
		best = min(best, time.Since(start))
	}
	return best
}

// P3.1: all octets are examined, wherever the first difference is. If Same
// stopped there, it would be faster by a factor of at least a hundred.
func TestSameExaminesAllOctets(t *testing.T) {
	a := make([]byte, 1<<23)
	alike := fastest(a, bytes.Clone(a))
	for _, at := range []int{0, 1, 100, len(a) / 100} {
		b := bytes.Clone(a)
		b[at] = 1
		if took := fastest(a, b); took < alike/10 {
			t.Errorf("with another octet %d: %v, and %v if all are alike", at, took, alike)
		}
	}
}

// P3.2: zeros appended to a key of fewer than 64 octets, up to 64.
func TestZerosAfterShortKey(t *testing.T) {
	for n := range 64 {
		key := text(n)
		want := mac.Tag(key, text(30))
		for size := n; size <= 64; size++ {
			longer := append(bytes.Clone(key), make([]byte, size-n)...)
			if got := mac.Tag(longer, text(30)); !bytes.Equal(got, want) {
				t.Errorf("a key of %d octets with zeros up to %d: got %x", n, size, got)
			}
		}
	}
}

// P3.2: zeros beyond 64 octets do change the tag, as do zeros ahead of the key
// and an octet other than zero.
func TestOtherOctetsAfterKey(t *testing.T) {
	for _, n := range []int{1, 4, 32, 63} {
		key := text(n)
		plain := mac.Tag(key, text(30))
		for i, other := range [][]byte{
			append(bytes.Clone(key), make([]byte, 65-n)...),
			append([]byte{0}, key...),
			append(bytes.Clone(key), 1),
		} {
			got := mac.Tag(other, text(30))
			if bytes.Equal(got, plain) || !bytes.Equal(got, library(other, text(30))) {
				t.Errorf("a key of %d octets, %d: got %x", n, i, got)
			}
		}
	}
	if bytes.Equal(mac.Tag(text(64)), mac.Tag(append(text(64), 0))) {
		t.Error("a zero after a key of 64 octets does not change the tag")
	}
}

// P3.2: what lies in the spare capacity of a key is no part of it.
func TestSpareCapacityOfKey(t *testing.T) {
	for _, n := range []int{0, 1, 63, 64, 65} {
		if got := mac.Tag(roomy(text(n)), text(30)); !bytes.Equal(got, library(text(n), text(30))) {
			t.Errorf("a key of %d octets: got %x", n, got)
		}
	}
}

// roomy is a copy of b with spare capacity that holds something.
func roomy(b []byte) []byte {
	all := append(bytes.Clone(b), bytes.Repeat([]byte{0xee}, 150)...)
	return all[:len(b)]
}

// P3.2: the key, the parts and what is compared are as they were, with their
// spare capacity.
func TestArgumentsAreNotChanged(t *testing.T) {
	for _, n := range []int{0, 1, 32, 55, 63, 64, 65, 130} {
		key, a, b := roomy(text(n)), roomy(text(n)), roomy(text(9))
		slices := [][]byte{key, a, b}
		var before [][]byte
		for _, s := range slices {
			before = append(before, bytes.Clone(s[:cap(s)]))
		}
		mac.Tag(key, a, b)
		mac.Tag(a, key, b)
		mac.Tag(key, key)
		mac.Same(key, a)
		mac.Same(a, b)
		for i, s := range slices {
			if !bytes.Equal(s[:cap(s)], before[i]) {
				t.Errorf("%d octets: argument %d was changed", n, i)
			}
		}
	}
}

// P3.2: the list of the parts, too, is as it was, with its spare capacity.
func TestListIsNotChanged(t *testing.T) {
	list := [][]byte{text(5), text(60), text(7), text(8)}
	for n := range len(list) + 1 {
		if got := mac.Tag([]byte("Jefe"), list[:n]...); !bytes.Equal(got, library([]byte("Jefe"), list[:n]...)) {
			t.Errorf("%d parts: got %x", n, got)
		}
		for i, want := range [][]byte{text(5), text(60), text(7), text(8)} {
			if !bytes.Equal(list[i], want) {
				t.Fatalf("%d parts: part %d became %x", n, i, list[i])
			}
		}
	}
}

// spoil changes b and its spare capacity.
func spoil(b []byte) {
	b = b[:cap(b)]
	for i := range b {
		b[i] ^= 255
	}
}

// P3.1 and P3.2: a tag is 32 octets, and shares memory with no argument and
// with no other tag.
func TestTagIsNewMemory(t *testing.T) {
	for _, n := range []int{0, 32, 64, 65} {
		key, in := roomy(text(n)), roomy(text(32))
		first, second := mac.Tag(key, in), mac.Tag(key, in)
		want := library(text(n), text(32))
		if len(first) != 32 {
			t.Fatalf("a key of %d octets: a tag of %d", n, len(first))
		}
		spoil(first)
		if !bytes.Equal(key, text(n)) || !bytes.Equal(in, text(32)) || !bytes.Equal(second, want) || !bytes.Equal(mac.Tag(key, in), want) {
			t.Errorf("a key of %d octets: a changed tag changed more", n)
		}
		spoil(key)
		spoil(in)
		if !bytes.Equal(second, want) {
			t.Errorf("a key of %d octets: a changed argument changed its tag", n)
		}
		if !bytes.Equal(mac.Tag(key, in), library(key, in)) {
			t.Errorf("a key of %d octets: the tag of changed arguments is wrong", n)
		}
	}
}

// P3.1 and P3.2: any key and any octets, divided anywhere.
func FuzzTag(f *testing.F) {
	f.Add([]byte("Jefe"), []byte("what do ya want for nothing?"), uint16(16))
	f.Add(text(65), text(64), uint16(55))
	f.Fuzz(func(t *testing.T, key, in []byte, i uint16) {
		x := int(i) % (len(in) + 1)
		got := mac.Tag(key, in[:x], in[x:])
		if want := library(key, in); !bytes.Equal(got, want) || !mac.Same(got, want) {
			t.Errorf("%x with %x, divided at %d: got %x", in, key, x, got)
		}
		if mac.Same(key, in) != bytes.Equal(key, in) {
			t.Errorf("%x and %x: alike: %v", key, in, mac.Same(key, in))
		}
	})
}
