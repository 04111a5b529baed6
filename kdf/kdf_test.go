package kdf_test

import (
	"bytes"
	"crypto/hkdf"
	"crypto/hmac"
	"crypto/sha256"
	"encoding/hex"
	"math"
	"strings"
	"testing"

	"engrosser/kdf"
)

// text is n octets that differ from their neighbours.
func text(n int) []byte {
	b := make([]byte, n)
	for i := range b {
		b[i] = byte(i*7 + i>>8 + 1)
	}
	return b
}

// label is a label of n octets that differ from their neighbours.
func label(n int) string {
	return string(text(n))
}

func octets(t *testing.T, digits string) []byte {
	t.Helper()
	b, err := hex.DecodeString(digits)
	if err != nil {
		t.Fatal(err)
	}
	return b
}

// tag is an HMAC of Go's own library.
func tag(key []byte, parts ...[]byte) []byte {
	h := hmac.New(sha256.New, key)
	for _, part := range parts {
		h.Write(part)
	}
	return h.Sum(nil)
}

// library is an expansion of Go's own library.
func library(t *testing.T, secret, info []byte, n int) []byte {
	t.Helper()
	b, err := hkdf.Expand(sha256.New, secret, string(info), n)
	if err != nil {
		t.Fatal(err)
	}
	return b
}

// info is the info of a labelled secret, laid out by hand.
func info(label string, context []byte, n int) []byte {
	b := []byte{byte(n >> 8), byte(n), byte(4 + len(label)), 'm', 'l', 's', ' '}
	b = append(b, label...)
	b = append(b, byte(len(context)>>8), byte(len(context)))
	return append(b, context...)
}

// sizes are the lengths around which an expansion has one tag more, and the
// ends of the range.
func sizes() []int {
	return []int{0, 1, 31, 32, 33, 63, 64, 65, 95, 96, 97, 8127, 8128, 8129, 8159, 8160}
}

// badSizes are the lengths that no expansion has; 65536 and 65541 are 0 and 5 in
// two octets.
func badSizes() []int {
	return []int{-1, -2, -32, -8160, math.MinInt, math.MinInt + 1, 8161, 8162, 8192, 65535, 65536, 65541, 1 << 32, math.MaxInt - 1, math.MaxInt}
}

// none are no octets, in each way there is of it.
func none() [][]byte {
	return [][]byte{nil, {}, make([]byte, 0, 9)}
}

// P4.1: the published tests of RFC 5869 for SHA-256, the first of which is the
// document's example.
func TestPublished(t *testing.T) {
	tests := []struct {
		salt, text, info string
		n                int
		secret, want     string
	}{
		{
			"000102030405060708090a0b0c", strings.Repeat("0b", 22), "f0f1f2f3f4f5f6f7f8f9", 42,
			"077709362c2e32df0ddc3f0dc47bba6390b6c73bb50f9c3122ec844ad7c2b3e5",
			"3cb25f25faacd57a90434f64d0362f2a2d2d0a90cf1a5a4c5db02d56ecc4c5bf34007208d5b887185865",
		},
		{
			counting(0x60, 80), counting(0x00, 80), counting(0xb0, 80), 82,
			"06a6b88c5853361a06104c9ceb35b45cef760014904671014a193f40c15fc244",
			"b11e398dc80327a1c8e7f78c596a49344f012eda2d4efad8a050cc4c19afa97c59045a99cac7827271cb41c65e590e09da3275600c2f09b8367793a9aca3db71cc30c58179ec3e87c14c01d5c1f3434f1d87",
		},
		{
			"", strings.Repeat("0b", 22), "", 42,
			"19ef24a32c717b167f33a91d6f648bdf96596776afdb6377ac434c1c293ccb04",
			"8da4e775a563c18f715f802a063c5a31b8a11f5c5ee1879ec3454e5f3c738d2d9d201395faa4b61a96c8",
		},
	}
	for i, x := range tests {
		secret := kdf.Extract(octets(t, x.salt), octets(t, x.text))
		if got := hex.EncodeToString(secret); got != x.secret {
			t.Errorf("%d: extracted %s", i, got)
		}
		b, ok := kdf.Expand(octets(t, x.secret), octets(t, x.info), x.n)
		if got := hex.EncodeToString(b); !ok || got != x.want {
			t.Errorf("%d: expanded %s, %v", i, got, ok)
		}
	}
}

// counting are the digits of n octets, each one greater than the one before it.
func counting(first, n int) string {
	b := make([]byte, n)
	for i := range b {
		b[i] = byte(first + i)
	}
	return hex.EncodeToString(b)
}

// P4.1: salts and texts of any length; the salt is the key.
func TestExtract(t *testing.T) {
	lengths := []int{0, 1, 13, 31, 32, 33, 55, 56, 63, 64, 65, 130, 1000}
	for _, n := range lengths {
		for _, m := range lengths {
			got := kdf.Extract(text(n), text(m))
			if len(got) != 32 || !bytes.Equal(got, tag(text(n), text(m))) {
				t.Errorf("a salt of %d octets, a text of %d: got %x", n, m, got)
			}
		}
	}
	if bytes.Equal(kdf.Extract(text(5), text(6)), kdf.Extract(text(6), text(5))) {
		t.Error("salt and text may be exchanged")
	}
}

// P4.1: without a salt, a text or both there is an extracted secret too.
func TestExtractOfNothing(t *testing.T) {
	for i, a := range none() {
		for j, b := range none() {
			if got := kdf.Extract(a, b); !bytes.Equal(got, tag(nil)) {
				t.Errorf("%d, %d: got %x", i, j, got)
			}
		}
		if got := kdf.Extract(a, text(40)); !bytes.Equal(got, tag(nil, text(40))) {
			t.Errorf("%d: no salt: got %x", i, got)
		}
		if got := kdf.Extract(text(40), a); !bytes.Equal(got, tag(text(40))) {
			t.Errorf("%d: no text: got %x", i, got)
		}
	}
}

// P4.1: an expansion of each length, for secrets and infos of several.
func TestExpand(t *testing.T) {
	for _, n := range sizes() {
		for _, length := range []int{0, 1, 32, 64, 65, 200} {
			for _, with := range []int{0, 1, 10, 64, 300} {
				got, ok := kdf.Expand(text(length), text(with), n)
				want := library(t, text(length), text(with), n)
				if !ok || len(got) != n || !bytes.Equal(got, want) {
					t.Errorf("a secret of %d octets, an info of %d, to %d: got %d octets, %v", length, with, n, len(got), ok)
				}
			}
		}
	}
}

// P4.1: every tag, up to the last with the octet 255, is that of the one before
// it, the info and its number.
func TestExpandChainsItsTags(t *testing.T) {
	got, ok := kdf.Expand(text(32), text(10), 8160)
	if !ok || len(got) != 8160 {
		t.Fatalf("got %d octets, %v", len(got), ok)
	}
	var last []byte
	for i := range 255 {
		last = tag(text(32), last, text(10), []byte{byte(i + 1)})
		if !bytes.Equal(got[32*i:32*i+32], last) {
			t.Fatalf("tag %d: got %x", i+1, got[32*i:32*i+32])
		}
	}
}

// P4.1: without a secret, an info or both there is an expansion too.
func TestExpandOfNothing(t *testing.T) {
	for _, n := range []int{0, 1, 32, 33, 8160} {
		for i, a := range none() {
			for j, b := range none() {
				if got, ok := kdf.Expand(a, b, n); !ok || !bytes.Equal(got, library(t, nil, nil, n)) {
					t.Errorf("%d, %d, to %d: got %d octets, %v", i, j, n, len(got), ok)
				}
			}
			if got, ok := kdf.Expand(a, text(10), n); !ok || !bytes.Equal(got, library(t, nil, text(10), n)) {
				t.Errorf("%d, to %d: no secret: got %d octets, %v", i, n, len(got), ok)
			}
			if got, ok := kdf.Expand(text(32), a, n); !ok || !bytes.Equal(got, library(t, text(32), nil, n)) {
				t.Errorf("%d, to %d: no info: got %d octets, %v", i, n, len(got), ok)
			}
		}
	}
}

// P4.1: no expansion and no labelled secret has such a length.
func TestBadSizes(t *testing.T) {
	for _, n := range badSizes() {
		if b, ok := kdf.Expand(text(32), text(10), n); ok || len(b) != 0 {
			t.Errorf("Expand to %d: got %d octets, %v", n, len(b), ok)
		}
		if b, ok := kdf.Expand(nil, nil, n); ok || len(b) != 0 {
			t.Errorf("Expand of nothing to %d: got %d octets, %v", n, len(b), ok)
		}
		if b, ok := kdf.Label(text(32), "label", text(10), n); ok || len(b) != 0 {
			t.Errorf("Label to %d: got %d octets, %v", n, len(b), ok)
		}
		if b, ok := kdf.Label(nil, "", nil, n); ok || len(b) != 0 {
			t.Errorf("Label of nothing to %d: got %d octets, %v", n, len(b), ok)
		}
	}
}

// P4.1: one labelled secret with its info written out, octet by octet.
func TestLabelInfo(t *testing.T) {
	secret := text(32)
	got, ok := kdf.Label(secret, "node", []byte("ab"), 258)
	want := library(t, secret, []byte{1, 2, 8, 'm', 'l', 's', ' ', 'n', 'o', 'd', 'e', 0, 2, 'a', 'b'}, 258)
	if !ok || !bytes.Equal(got, want) {
		t.Errorf("got %x, %v", got, ok)
	}
}

// P4.1: labels and contexts of each length that is allowed, to each length.
func TestLabel(t *testing.T) {
	secret := text(32)
	for _, n := range sizes() {
		for _, l := range []int{0, 1, 4, 250, 251} {
			for _, c := range []int{0, 1, 32, 255, 256, 1000} {
				got, ok := kdf.Label(secret, label(l), text(c), n)
				if !ok || len(got) != n || !bytes.Equal(got, library(t, secret, info(label(l), text(c), n), n)) {
					t.Errorf("a label of %d octets, a context of %d, to %d: got %d octets, %v", l, c, n, len(got), ok)
				}
			}
		}
	}
}

// P4.1: the longest contexts, with the shortest and the longest labels.
func TestLongContexts(t *testing.T) {
	for _, c := range []int{65534, 65535} {
		for _, l := range []int{0, 251} {
			for _, n := range []int{0, 1, 32, 33} {
				got, ok := kdf.Label(text(32), label(l), text(c), n)
				if !ok || !bytes.Equal(got, library(t, text(32), info(label(l), text(c), n), n)) {
					t.Errorf("a label of %d octets, a context of %d, to %d: got %d octets, %v", l, c, n, len(got), ok)
				}
			}
		}
	}
}

// P4.1: a label or a context that is too long, alone and with other faults.
func TestLabelRejects(t *testing.T) {
	tests := []struct{ label, context, n int }{
		{252, 0, 32}, {252, 0, 0}, {253, 5, 32}, {255, 5, 32}, {256, 5, 32}, {260, 5, 32}, {508, 5, 32}, {65536, 5, 32},
		{0, 65536, 32}, {5, 65536, 0}, {251, 65536, 32}, {5, 65537, 32}, {5, 131072, 32},
		{252, 65536, 32}, {252, 0, -1}, {0, 65536, 8161}, {252, 65536, -1},
	}
	for _, x := range tests {
		if b, ok := kdf.Label(text(32), label(x.label), text(x.context), x.n); ok || len(b) != 0 {
			t.Errorf("a label of %d octets, a context of %d, to %d: got %d octets, %v", x.label, x.context, x.n, len(b), ok)
		}
	}
}

// P4.1: without a secret, a label or a context there is a labelled secret too.
func TestLabelOfNothing(t *testing.T) {
	for _, n := range []int{0, 1, 32, 8160} {
		for i, a := range none() {
			for j, b := range none() {
				if got, ok := kdf.Label(a, "", b, n); !ok || !bytes.Equal(got, library(t, nil, info("", nil, n), n)) {
					t.Errorf("%d, %d, to %d: got %d octets, %v", i, j, n, len(got), ok)
				}
			}
			if got, ok := kdf.Label(text(32), "x", a, n); !ok || !bytes.Equal(got, library(t, text(32), info("x", nil, n), n)) {
				t.Errorf("%d, to %d: no context: got %d octets, %v", i, n, len(got), ok)
			}
		}
	}
}

// P4.1: the labelled secret depends on the length itself, on where the label
// ends, and on the secret.
func TestLabelsAreApart(t *testing.T) {
	at := func(secret []byte, label, context string, n int) []byte {
		b, ok := kdf.Label(secret, label, []byte(context), n)
		if !ok {
			t.Fatalf("%q, %q, to %d", label, context, n)
		}
		return b
	}
	secret := text(32)
	first := at(secret, "ab", "c", 32)
	for i, other := range [][]byte{
		at(secret, "ab", "c", 33)[:32],
		at(secret, "a", "bc", 32),
		at(secret, "abc", "", 32),
		at(secret, "", "abc", 32),
		at(secret, "AB", "c", 32),
		at(secret, "mls ab", "c", 32),
		at(text(31), "ab", "c", 32),
	} {
		if bytes.Equal(first, other) {
			t.Errorf("%d: got the same octets", i)
		}
	}
}

// P4.1: octets of a label that are no text count as they are.
func TestLabelOfAnyOctets(t *testing.T) {
	for _, l := range []string{"\x00", "\xff\xfe", "é", "\xc3", "a\x00b", strings.Repeat("é", 125) + "\xc3"} {
		got, ok := kdf.Label(text(32), l, text(3), 40)
		if !ok || !bytes.Equal(got, library(t, text(32), info(l, text(3), 40), 40)) {
			t.Errorf("%q: got %x, %v", l, got, ok)
		}
		if got := kdf.Derive(text(32), l); !bytes.Equal(got, library(t, text(32), info(l, nil, 32), 32)) {
			t.Errorf("%q: derived %x", l, got)
		}
	}
}

// P4.1: a derived secret is the labelled one without a context, of 32 octets.
func TestDerive(t *testing.T) {
	for _, secret := range [][]byte{nil, {}, text(1), text(32), text(65)} {
		for _, l := range []int{0, 1, 5, 250, 251} {
			got := kdf.Derive(secret, label(l))
			labelled, ok := kdf.Label(secret, label(l), nil, 32)
			want := library(t, secret, info(label(l), nil, 32), 32)
			if !ok || len(got) != 32 || !bytes.Equal(got, want) || !bytes.Equal(got, labelled) {
				t.Errorf("a secret of %d octets, a label of %d: got %x", len(secret), l, got)
			}
		}
	}
}

// P4.1: of a longer label, the first 251 octets count, and all of them.
func TestDeriveCutsItsLabel(t *testing.T) {
	secret := text(32)
	for _, l := range []int{252, 253, 255, 256, 507, 508, 65536} {
		if got := kdf.Derive(secret, label(l)); !bytes.Equal(got, library(t, secret, info(label(l)[:251], nil, 32), 32)) {
			t.Errorf("a label of %d octets: got %x", l, got)
		}
	}
	if bytes.Equal(kdf.Derive(secret, label(251)), kdf.Derive(secret, label(250))) {
		t.Error("octet 251 of a label does not count")
	}
	// The cut goes through a letter of two octets: the first of them stays.
	accents := strings.Repeat("é", 126)
	if got := kdf.Derive(secret, accents); !bytes.Equal(got, library(t, secret, info(accents[:251], nil, 32), 32)) {
		t.Errorf("a label cut within a letter: got %x", got)
	}
}

// P4.2: every expansion is a prefix of the longest one, and so of every longer
// one.
func TestShorterIsPrefix(t *testing.T) {
	longest, ok := kdf.Expand(text(32), text(10), 8160)
	if !ok {
		t.Fatal("no expansion to 8160")
	}
	check := func(n int) {
		if b, ok := kdf.Expand(text(32), text(10), n); !ok || len(b) != n || !bytes.Equal(b, longest[:n]) {
			t.Errorf("to %d: got %d octets, %v", n, len(b), ok)
		}
	}
	for n := range 200 {
		check(n)
	}
	for n := 224; n <= 8160; n += 32 {
		check(n - 1)
		check(n)
		if n < 8160 {
			check(n + 1)
		}
	}
}

// roomy is a copy of b with spare capacity that holds something.
func roomy(b []byte) []byte {
	all := append(bytes.Clone(b), bytes.Repeat([]byte{0xee}, 150)...)
	return all[:len(b)]
}

// spoil changes b and its spare capacity.
func spoil(b []byte) {
	b = b[:cap(b)]
	for i := range b {
		b[i] ^= 255
	}
}

// call is one of the functions, with a length, or a label, that is settled.
type call struct {
	name string
	run  func(a, b []byte) []byte
}

func calls() []call {
	all := []call{
		{"Extract", kdf.Extract},
		{"Derive", func(a, _ []byte) []byte { return kdf.Derive(a, "label") }},
		{"Derive, cut", func(a, _ []byte) []byte { return kdf.Derive(a, label(300)) }},
	}
	for _, n := range []int{-1, 0, 1, 31, 32, 33, 64, 100, 8160, 8161} {
		all = append(all,
			call{"Expand", func(a, b []byte) []byte { out, _ := kdf.Expand(a, b, n); return out }},
			call{"Label", func(a, b []byte) []byte { out, _ := kdf.Label(a, "label", b, n); return out }},
			call{"Label, too long", func(a, b []byte) []byte { out, _ := kdf.Label(a, label(252), b, n); return out }},
		)
	}
	return all
}

// P4.2: what lies in the spare capacity of an argument is no part of it, and
// the arguments are as they were, with their spare capacity.
func TestArgumentsAreNotChanged(t *testing.T) {
	for _, c := range calls() {
		for _, n := range []int{0, 1, 31, 32, 64, 65} {
			a, b := roomy(text(n)), roomy(text(n))
			before := bytes.Clone(a[:cap(a)])
			if got := c.run(a, b); !bytes.Equal(got, c.run(text(n), text(n))) {
				t.Errorf("%s of %d octets: spare capacity changed the result", c.name, n)
			}
			c.run(a, a)
			if !bytes.Equal(a[:cap(a)], before) || !bytes.Equal(b[:cap(b)], before) {
				t.Errorf("%s of %d octets: an argument was changed", c.name, n)
			}
		}
	}
}

// P4.2: results share no memory with arguments or with each other, and nothing
// of an argument is kept.
func TestResultsAreNewMemory(t *testing.T) {
	for _, c := range calls() {
		a, b := roomy(text(32)), roomy(text(40))
		first, second, want := c.run(a, b), c.run(a, b), bytes.Clone(c.run(text(32), text(40)))
		spoil(first)
		if !bytes.Equal(a, text(32)) || !bytes.Equal(b, text(40)) || !bytes.Equal(second, want) || !bytes.Equal(c.run(a, b), want) {
			t.Errorf("%s, %d octets: a changed result changed more", c.name, len(first))
		}
		spoil(a)
		spoil(b)
		if !bytes.Equal(second, want) {
			t.Errorf("%s, %d octets: a changed argument changed a result", c.name, len(first))
		}
		if !bytes.Equal(c.run(a, b), c.run(bytes.Clone(a), bytes.Clone(b))) {
			t.Errorf("%s, %d octets: the result of changed arguments is wrong", c.name, len(first))
		}
	}
}

// P4.1: n octets are returned, and none that a longer expansion would have lies
// behind them.
func TestNothingBehindTheResult(t *testing.T) {
	for _, n := range []int{0, 1, 31, 33, 63, 65, 100, 8159} {
		b, _ := kdf.Expand(text(32), text(10), n)
		longer, _ := kdf.Expand(text(32), text(10), n+1)
		if cap(b) > n && b[:n+1][n] == longer[n] {
			t.Errorf("to %d: octet %d of a longer expansion lies in the spare capacity", n, n)
		}
	}
}

// P4.1 and P4.2: any arguments.
func FuzzKdf(f *testing.F) {
	f.Add(text(32), text(10), "label", 42)
	f.Add([]byte{}, text(70), label(251), 8160)
	f.Add(text(65), []byte{}, label(252), -1)
	f.Fuzz(func(t *testing.T, a, b []byte, l string, n int) {
		if got := kdf.Extract(a, b); !bytes.Equal(got, tag(a, b)) {
			t.Errorf("Extract: got %x", got)
		}
		fits := n >= 0 && n <= 8160
		got, ok := kdf.Expand(a, b, n)
		if ok != fits || ok && !bytes.Equal(got, library(t, a, b, n)) || !ok && len(got) != 0 {
			t.Errorf("Expand to %d: got %d octets, %v", n, len(got), ok)
		}
		fits = fits && len(l) <= 251 && len(b) <= 65535
		got, ok = kdf.Label(a, l, b, n)
		if ok != fits || ok && !bytes.Equal(got, library(t, a, info(l, b, n), n)) || !ok && len(got) != 0 {
			t.Errorf("Label to %d: got %d octets, %v", n, len(got), ok)
		}
		cut := l[:min(len(l), 251)]
		if got := kdf.Derive(a, l); !bytes.Equal(got, library(t, a, info(cut, nil, 32), 32)) {
			t.Errorf("Derive: got %x", got)
		}
	})
}
