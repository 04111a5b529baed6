package sha_test

import (
	"bytes"
	"crypto/sha256"
	"encoding/hex"
	"math/rand"
	"strings"
	"testing"

	"engrosser/api"
	"engrosser/sha"
)

// text is n octets that differ from their neighbours.
func text(n int) []byte {
	b := make([]byte, n)
	for i := range b {
		b[i] = byte(i*7 + i>>8 + 1)
	}
	return b
}

// library is the digest as Go's own library has it.
func library(parts ...[]byte) []byte {
	h := sha256.New()
	for _, part := range parts {
		h.Write(part)
	}
	return h.Sum(nil)
}

// P2.1: digests that are published, with the document's example.
func TestPublishedDigests(t *testing.T) {
	tests := []struct{ in, want string }{
		{"", "e3b0c44298fc1c149afbf4c8996fb92427ae41e4649b934ca495991b7852b855"},
		{"abc", "ba7816bf8f01cfea414140de5dae2223b00361a396177a9cb410ff61f20015ad"},
		{"abcdbcdecdefdefgefghfghighijhijkijkljklmklmnlmnomnopnopq", "248d6a61d20638b8e5c026930c3e6039a33ce45964ff2167f6ecedd419db06c1"},
		{"abcdefghbcdefghicdefghijdefghijkefghijklfghijklmghijklmnhijklmnoijklmnopjklmnopqklmnopqrlmnopqrsmnopqrstnopqrstu", "cf5b16a778af8380036ce59e7b0492370b249b11e8f07a51afac45037afee9d1"},
		{strings.Repeat("a", 1000000), "cdc76e5c9914fb9281a1c7e284d73e67f1809a48a497200e046d39ccc7112cd0"},
	}
	for _, x := range tests {
		if got := hex.EncodeToString(sha.Sum([]byte(x.in))); got != x.want {
			t.Errorf("%d octets: got %s", len(x.in), got)
		}
	}
}

// P2.1: without an octet there is a digest too, whichever way there is none.
func TestNoOctets(t *testing.T) {
	want := library()
	for i, parts := range [][][]byte{nil, {}, {nil}, {{}}, {nil, {}, nil}, {make([]byte, 0, 9)}} {
		if got := sha.Sum(parts...); !bytes.Equal(got, want) {
			t.Errorf("%d: got %x", i, got)
		}
	}
}

// P2.1: every length around the places where the padding needs one block more
// (55 to 56, 119 to 120) and where a block is full (63 to 64, 127 to 128).
func TestLengths(t *testing.T) {
	for n := range 520 {
		if in := text(n); !bytes.Equal(sha.Sum(in), library(in)) {
			t.Errorf("%d octets: got %x", n, sha.Sum(in))
		}
	}
}

// P2.1: octets of every value at every place of a block matter.
func TestEveryBitMatters(t *testing.T) {
	for _, n := range []int{1, 55, 56, 64, 120} {
		in := text(n)
		for i := range 8 * n {
			in[i/8] ^= 1 << (i % 8)
			if got := sha.Sum(in); !bytes.Equal(got, library(in)) {
				t.Errorf("%d octets, bit %d changed: got %x", n, i, got)
			}
			in[i/8] ^= 1 << (i % 8)
		}
	}
}

// P2.1: the length in bits needs more than two, three and four octets.
func TestLongInputs(t *testing.T) {
	part := text(1 << 20)
	for _, n := range []int{0, 1, 2, 3, 512} {
		if n > 3 && testing.Short() {
			t.Skip("512 MiB take some seconds")
		}
		parts := [][]byte{text(8192 + 57)}
		for range n {
			parts = append(parts, part)
		}
		if got := sha.Sum(parts...); !bytes.Equal(got, library(parts...)) {
			t.Errorf("%d MiB: got %x", n, got)
		}
	}
}

// P2.1: the parts are joined in their order.
func TestOrder(t *testing.T) {
	a, b := text(70), text(3)
	if got := sha.Sum(a, b); !bytes.Equal(got, library(a, b)) || bytes.Equal(got, sha.Sum(b, a)) {
		t.Errorf("got %x", got)
	}
	if got := sha.Sum(b, b, b); !bytes.Equal(got, library(b, b, b)) {
		t.Errorf("one part three times: got %x", got)
	}
}

// P2.2: two parts, divided at every place, with empty ones between them.
func TestTwoParts(t *testing.T) {
	for _, n := range []int{0, 1, 3, 54, 55, 56, 63, 64, 65, 119, 120, 128, 200} {
		in := text(n)
		want := library(in)
		for i := range n + 1 {
			if got := sha.Sum(in[:i], in[i:]); !bytes.Equal(got, want) {
				t.Errorf("%d octets, divided at %d: got %x", n, i, got)
			}
			if got := sha.Sum(nil, in[:i], nil, []byte{}, in[i:], nil); !bytes.Equal(got, want) {
				t.Errorf("%d octets, divided at %d with empty parts: got %x", n, i, got)
			}
		}
	}
}

// P2.2: three parts, divided at every two places.
func TestThreeParts(t *testing.T) {
	in := text(130)
	want := library(in)
	for i := range len(in) + 1 {
		for k := i; k <= len(in); k++ {
			if got := sha.Sum(in[:i], in[i:k], in[k:]); !bytes.Equal(got, want) {
				t.Fatalf("divided at %d and %d: got %x", i, k, got)
			}
		}
	}
}

// P2.2: parts of any sizes, single octets among them.
func TestManyParts(t *testing.T) {
	r := rand.New(rand.NewSource(2))
	for i := range 400 {
		in := text(r.Intn(700))
		most := 1 + r.Intn(150)
		var parts [][]byte
		for rest := in; len(rest) > 0; {
			n := min(len(rest), r.Intn(most+1))
			parts = append(parts, rest[:n])
			rest = rest[n:]
		}
		if got := sha.Sum(parts...); !bytes.Equal(got, library(in)) {
			t.Errorf("%d: %d octets in %d parts: got %x", i, len(in), len(parts), got)
		}
	}
}

// roomy is a copy of b with spare capacity that holds something.
func roomy(b []byte) []byte {
	all := append(bytes.Clone(b), bytes.Repeat([]byte{0xee}, 150)...)
	return all[:len(b)]
}

// P2.2: the parts are as they were, with their spare capacity.
func TestPartsAreNotChanged(t *testing.T) {
	for _, n := range []int{0, 1, 55, 56, 63, 64, 119, 120} {
		a, b := roomy(text(n)), roomy(text(9))
		beforeA, beforeB := bytes.Clone(a[:cap(a)]), bytes.Clone(b[:cap(b)])
		sha.Sum(a, b)
		sha.Sum(b, a)
		if !bytes.Equal(a[:cap(a)], beforeA) || !bytes.Equal(b[:cap(b)], beforeB) {
			t.Errorf("%d octets: a part was changed", n)
		}
	}
}

// P2.2: the list of the parts, too, is as it was, with its spare capacity.
func TestListIsNotChanged(t *testing.T) {
	list := [][]byte{text(5), text(60), text(7), text(8)}
	for n := range len(list) + 1 {
		sha.Sum(list[:n]...)
		for i, want := range [][]byte{text(5), text(60), text(7), text(8)} {
			if !bytes.Equal(list[i], want) {
				t.Fatalf("%d parts: part %d became %x", n, i, list[i])
			}
		}
	}
}

// spoil changes b and its spare capacity.
func spoil(b []byte) {
	b = b[:cap(b)]
	for i := range b {
		b[i] ^= 255
	}
}

// P2.2: a digest shares memory with no part and with no other digest.
func TestDigestIsNewMemory(t *testing.T) {
	for _, n := range []int{0, 32, 64, 100} {
		in := roomy(text(n))
		first, second := sha.Sum(in), sha.Sum(in)
		want := library(text(n))
		if len(first) != api.HashSize {
			t.Fatalf("%d octets: a digest of %d", n, len(first))
		}
		spoil(first)
		if !bytes.Equal(in, text(n)) || !bytes.Equal(second, want) || !bytes.Equal(sha.Sum(in), want) {
			t.Errorf("%d octets: a changed digest changed more", n)
		}
		spoil(in)
		if !bytes.Equal(second, want) {
			t.Errorf("%d octets: a changed part changed its digest", n)
		}
		if !bytes.Equal(sha.Sum(in), library(in)) {
			t.Errorf("%d octets: the digest of a changed part is wrong", n)
		}
	}
}

// P2.1 and P2.2: any octets, divided anywhere.
func FuzzSum(f *testing.F) {
	f.Add([]byte("abc"), uint16(1), uint16(2))
	f.Add(text(64), uint16(55), uint16(56))
	f.Fuzz(func(t *testing.T, in []byte, i, k uint16) {
		x := int(i) % (len(in) + 1)
		y := x + int(k)%(len(in)-x+1)
		if got := sha.Sum(in[:x], in[x:y], in[y:]); !bytes.Equal(got, library(in)) {
			t.Errorf("%x, divided at %d and %d: got %x", in, x, y, got)
		}
	})
}
