package hpke_test

import (
	"bytes"
	library "crypto/aes"
	"crypto/hmac"
	"crypto/sha256"
	"encoding/binary"
	"encoding/hex"
	"math/big"
	"math/rand"
	"testing"

	"engrosser/api"
	"engrosser/hpke"
	"engrosser/power"
	"engrosser/wire"
)

const (
	prime = 1<<61 - 1
	most  = 1<<64 - 1
	// order is the least private key whose public key is 1: the powers of 3
	// are a ninth of the numbers.
	order = (prime - 1) / 9
)

// text is n octets that differ from their neighbours.
func text(n int) []byte {
	b := make([]byte, n)
	for i := range b {
		b[i] = byte(i*7 + i>>8 + 1)
	}
	return b
}

func octets(t *testing.T, digits string) []byte {
	t.Helper()
	b, err := hex.DecodeString(digits)
	if err != nil {
		t.Fatal(err)
	}
	return b
}

// counting are n octets, each one greater than the one before it.
func counting(first, n int) []byte {
	b := make([]byte, n)
	for i := range b {
		b[i] = byte(first + i)
	}
	return b
}

// none are no octets, in each way there is of it.
func none() [][]byte {
	return [][]byte{nil, {}, make([]byte, 0, 9)}
}

// roomy is a copy of b with something behind it.
func roomy(b []byte) []byte {
	return append(bytes.Clone(b), bytes.Repeat([]byte{0xee}, 150)...)[:len(b)]
}

// spoil changes each octet of b and of its spare capacity.
func spoil(b []byte) {
	b = b[:cap(b)]
	for i := range b {
		b[i] ^= 255
	}
}

// changed is a copy of b with the bits of mask changed in octet i.
func changed(b []byte, i int, mask byte) []byte {
	b = bytes.Clone(b)
	b[i] ^= mask
	return b
}

// eight are a number's octets by Go's own library.
func eight(n uint64) []byte {
	return binary.BigEndian.AppendUint64(nil, n)
}

// raised is a to the power n by Go's own library.
func raised(a, n uint64) uint64 {
	large := func(n uint64) *big.Int { return new(big.Int).SetUint64(n) }
	return new(big.Int).Exp(large(a), large(n), large(prime)).Uint64()
}

// tag is a tag of parts by Go's own library.
func tag(key []byte, parts ...[]byte) []byte {
	h := hmac.New(sha256.New, key)
	for _, part := range parts {
		h.Write(part)
	}
	return h.Sum(nil)
}

// labelled is a labelled secret by Go's own library, laid out by hand.
func labelled(secret []byte, label string, context []byte, n int) []byte {
	info := binary.BigEndian.AppendUint16(nil, uint16(n))
	info = append(info, byte(4+len(label)))
	info = append(info, "mls "+label...)
	info = binary.BigEndian.AppendUint16(info, uint16(len(context)))
	info = append(info, context...)
	var out, last []byte
	for i := 1; len(out) < n; i++ {
		last = tag(secret, last, info, []byte{byte(i)})
		out = append(out, last...)
	}
	return out[:n]
}

// drawnKey is the private key of a draw.
func drawnKey(draw []byte) uint64 {
	return 1 + binary.BigEndian.Uint64(labelled(draw, "key", nil, 8))%(prime-2)
}

// masked is a text encrypted by the block cipher of Go's own library.
func masked(t *testing.T, key, nonce, text []byte) []byte {
	t.Helper()
	c, err := library.NewCipher(key)
	if err != nil {
		t.Fatal(err)
	}
	out, block, mask := bytes.Clone(text), bytes.Clone(nonce), make([]byte, 16)
	for i := range out {
		if i%16 == 0 {
			c.Encrypt(mask, block)
			binary.BigEndian.PutUint32(block[12:], binary.BigEndian.Uint32(block[12:])+1)
		}
		out[i] ^= mask[i%16]
	}
	return out
}

// expected is what is sealed by the definition, for a shared number, both
// public keys, and whatever else there is.
func expected(t *testing.T, shared, from, public uint64, info, beside, text []byte) []byte {
	t.Helper()
	secret := tag(nil, eight(shared), eight(from), eight(public))
	key, nonce := labelled(secret, "key", info, 48), labelled(secret, "nonce", info, 16)
	b := masked(t, key[:16], nonce, text)
	length := binary.BigEndian.AppendUint32(nil, uint32(len(beside)))
	return append(b, tag(key[16:], length, beside, nonce, b)[:16]...)
}

// sealed seals what can be sealed.
func sealed(t *testing.T, public uint64, info, beside, text, draw []byte) api.Sealed {
	t.Helper()
	s, x := hpke.Seal(public, info, beside, text, draw)
	if x != api.OK {
		t.Fatalf("Seal: %v", x)
	}
	return s
}

// checkSeal holds what is sealed against the definition.
func checkSeal(t *testing.T, public uint64, info, beside, text, draw []byte) {
	t.Helper()
	own := drawnKey(draw)
	from := raised(3, own)
	want := expected(t, raised(public, own), from, public, info, beside, text)
	s, x := hpke.Seal(public, info, beside, text, draw)
	if x != api.OK || s.From != from || !bytes.Equal(s.Text, want) {
		t.Errorf("public %d, info of %d, beside of %d, text of %d, draw of %d octets: from %d (want %d), %d octets, %v",
			public, len(info), len(beside), len(text), len(draw), s.From, from, len(s.Text), x)
	}
}

// checkSealFails seals what cannot be sealed.
func checkSealFails(t *testing.T, what string, public uint64, info []byte, want api.Errno) {
	t.Helper()
	s, x := hpke.Seal(public, info, text(3), text(20), text(32))
	if x != want || s.From != 0 || len(s.Text) != 0 {
		t.Errorf("%s: got from %d, %d octets, %v, want %v", what, s.From, len(s.Text), x, want)
	}
}

// checkOpen opens what can be opened.
func checkOpen(t *testing.T, key uint64, s api.Sealed, info, beside, want []byte) {
	t.Helper()
	if got, x := hpke.Open(key, s, info, beside); x != api.OK || !bytes.Equal(got, want) {
		t.Errorf("key %d, from %d, info of %d, beside of %d octets: got %x, %v, want %x", key, s.From, len(info), len(beside), got, x, want)
	}
}

// checkOpenFails opens what cannot be opened.
func checkOpenFails(t *testing.T, what string, key uint64, s api.Sealed, info, beside []byte, want api.Errno) {
	t.Helper()
	if got, x := hpke.Open(key, s, info, beside); x != want || len(got) != 0 {
		t.Errorf("%s: got %d octets, %v, want %v", what, len(got), x, want)
	}
}

// checkBoth seals a text to a key's public key and opens it with the key.
func checkBoth(t *testing.T, key uint64, info, beside, text, draw []byte) {
	t.Helper()
	s := sealed(t, power.Public(key), info, beside, text, draw)
	if len(s.Text) != len(text)+16 {
		t.Errorf("%d octets are sealed to %d", len(text), len(s.Text))
	}
	checkOpen(t, key, s, info, beside, text)
}

// P8.1: sealed texts that were made by other programs (Python's HMAC and
// numbers, openssl's cipher). The first two go to the private key of "a".
func TestKnown(t *testing.T) {
	const toA = 1698461819911046417
	tests := []struct {
		public                   uint64
		info, beside, text, draw []byte
		from                     uint64
		want                     string
	}{
		{toA, []byte("info"), []byte("beside"), []byte("text"), []byte("draw"),
			474665445648413844, "2cb5535d3b6f76a81102c45bb4ab512ed7dac995"},
		{toA, nil, nil, nil, nil,
			2012443967360564552, "3cbbc8d62c541204886231c508bbca54"},
		{2, []byte{0}, []byte{0}, counting(0, 40), counting(0, 32),
			2239990179931498273, "1e06ab1d4429b5c697090389328510f123d674869dceefc8cb919e5cc891473a" +
				"17eb946ccd63398d36a619513a35573932666e7df5cceb11"},
		{prime - 2, []byte("i"), nil, bytes.Repeat([]byte("x"), 16), bytes.Repeat([]byte{255}, 32),
			465201966545459614, "68d2e3f049e817ffc6a3a33f1da1086293fd4ab303a0c35fd11a3b1fe92e01fa"},
		{3, bytes.Repeat([]byte("a"), 300), bytes.Repeat([]byte("b"), 300), bytes.Repeat([]byte("c"), 17), bytes.Repeat([]byte("d"), 100),
			1369039549659090477, "ffde9113ba9333b260b515eec0f763f5084373c6dac17c35933b0548413a7eeb09"},
	}
	for i, x := range tests {
		s := sealed(t, x.public, x.info, x.beside, x.text, x.draw)
		if s.From != x.from || !bytes.Equal(s.Text, octets(t, x.want)) {
			t.Errorf("test %d: got from %d, %x", i, s.From, s.Text)
		}
		checkSeal(t, x.public, x.info, x.beside, x.text, x.draw)
	}
	if power.Public(power.Key([]byte("a"))) != toA {
		t.Error("the public key of \"a\"")
	}
}

// P8.4: the chapter's example.
func TestExample(t *testing.T) {
	key := power.Key([]byte("a"))
	s := sealed(t, power.Public(key), nil, nil, []byte("a text"), text(32))
	checkOpen(t, key, s, nil, nil, []byte("a text"))
}

// P8.1: a public key is one from 2 to P - 2.
func TestSealPublic(t *testing.T) {
	for _, public := range []uint64{2, 3, 4, 9, 1 << 32, 1 << 60, prime / 2, prime - 3, prime - 2} {
		checkSeal(t, public, text(3), text(5), text(40), text(32))
	}
	for _, public := range []uint64{0, 1, prime - 1, prime, prime + 1, prime + 2, prime + 3, 2 * prime, 2*prime + 5, 1 << 63, 1<<63 + 2, most - 1, most} {
		checkSealFails(t, "a public key that is not valid", public, nil, api.ErrKey)
		checkSealFails(t, "a public key that is not valid", public, text(4), api.ErrKey)
	}
}

// P8.1: an info has up to 65535 octets; a public key that is not valid comes first.
func TestSealInfo(t *testing.T) {
	for _, n := range []int{0, 1, 254, 255, 256, 257, 4096, 65534, 65535} {
		checkSeal(t, 5, text(n), text(5), text(40), text(32))
	}
	for _, n := range []int{65536, 65537, 1 << 17, 1<<20 + 3} {
		checkSealFails(t, "an info that is too long", 5, text(n), api.ErrArg)
		checkSealFails(t, "an info that is too long", prime-2, text(n), api.ErrArg)
		for _, public := range []uint64{0, 1, prime - 1, prime, most} {
			checkSealFails(t, "a wrong key and an info that is too long", public, text(n), api.ErrKey)
		}
	}
}

// P8.1: nothing else is limited, and all of it may be empty.
func TestSealLengths(t *testing.T) {
	for _, n := range []int{0, 1, 7, 8, 15, 16, 17, 31, 32, 33, 63, 64, 65, 100, 255, 256, 257, 1000, 65519, 65520, 65535, 65536, 70001} {
		checkSeal(t, 7, text(3), text(5), text(n), text(32))
		checkSeal(t, 7, text(3), text(n), text(5), text(32))
		checkSeal(t, 7, text(3), text(5), text(40), text(n))
	}
	for _, b := range none() {
		checkSeal(t, 7, b, text(1), text(2), text(3))
		checkSeal(t, 7, text(1), b, text(2), text(3))
		checkSeal(t, 7, text(1), text(2), b, text(3))
		checkSeal(t, 7, text(1), text(2), text(3), b)
		checkSeal(t, 7, b, b, b, b)
	}
}

// P8.1: values without a pattern.
func TestSealSome(t *testing.T) {
	r := rand.New(rand.NewSource(8))
	some := func() []byte {
		b := make([]byte, r.Intn(70))
		r.Read(b)
		return b
	}
	for range 300 {
		checkSeal(t, 2+r.Uint64()%(prime-3), some(), some(), some(), some())
	}
}

// P8.1: with the same arguments the result is the same; with another argument
// it is another one. Only the draw makes From.
func TestSealDepends(t *testing.T) {
	info, beside, plain, draw := text(3), text(5), text(40), text(32)
	s := sealed(t, 7, info, beside, plain, draw)
	if again := sealed(t, 7, info, beside, plain, draw); again.From != s.From || !bytes.Equal(again.Text, s.Text) {
		t.Error("another result the second time")
	}
	others := []api.Sealed{
		sealed(t, 8, info, beside, plain, draw),
		sealed(t, 7, changed(info, 2, 1), beside, plain, draw),
		sealed(t, 7, info, changed(beside, 4, 1), plain, draw),
		sealed(t, 7, info, beside, changed(plain, 39, 1), draw),
	}
	for i, other := range others {
		if other.From != s.From || bytes.Equal(other.Text, s.Text) {
			t.Errorf("change %d: from %d (was %d), %x", i, other.From, s.From, other.Text)
		}
	}
	if other := sealed(t, 7, info, beside, plain, changed(draw, 31, 1)); other.From == s.From || bytes.Equal(other.Text, s.Text) {
		t.Error("another draw makes no other result")
	}
}

// P8.4: a text is opened with the private key to whose public key it was
// sealed, whatever the key is. (P - 2 is a key, and so is 1, although 1 is no
// public key.)
func TestBoth(t *testing.T) {
	keys := []uint64{1, 2, 3, 4, 5, 255, 256, 1 << 32, 1 << 60, order/2 - 1, order/2 + 1, order - 1, order + 1, prime / 2, prime - 4, prime - 3, prime - 2}
	r := rand.New(rand.NewSource(9))
	for range 50 {
		keys = append(keys, 1+r.Uint64()%(prime-2))
	}
	for _, key := range keys {
		if !power.Right(power.Public(key)) {
			continue
		}
		checkBoth(t, key, text(3), text(5), text(40), text(32))
		checkBoth(t, key, nil, nil, nil, nil)
	}
}

// P8.4: the same, of any lengths.
func TestBothLengths(t *testing.T) {
	key := power.Key([]byte("a"))
	for _, n := range []int{0, 1, 15, 16, 17, 31, 32, 33, 64, 255, 256, 1000, 65519, 65520, 65535, 65536, 70001} {
		checkBoth(t, key, nil, text(5), text(n), text(32))
		checkBoth(t, key, text(3), text(n), text(5), text(32))
		checkBoth(t, key, text(3), text(5), text(5), text(n))
	}
	for _, n := range []int{0, 1, 255, 256, 65534, 65535} {
		checkBoth(t, key, text(n), text(5), text(40), text(32))
	}
	for _, b := range none() {
		checkBoth(t, key, b, b, b, b)
		checkBoth(t, key, text(3), text(5), b, text(32))
	}
}

// P8.2: Open follows the definition, and so opens what others sealed, also with
// a key whose public key is not valid, and from any valid From.
func TestOpenByDefinition(t *testing.T) {
	info, beside, plain := text(3), text(5), text(40)
	for _, key := range []uint64{1, 2, order / 2, order, 3 * (order / 2), 8 * order, prime / 2, prime - 2} {
		for _, from := range []uint64{2, 3, 1 << 60, prime - 3, prime - 2} {
			b := expected(t, raised(from, key), from, raised(3, key), info, beside, plain)
			checkOpen(t, key, api.Sealed{From: from, Text: b}, info, beside, plain)
			checkOpen(t, key, api.Sealed{From: from, Text: expected(t, raised(from, key), from, raised(3, key), nil, nil, nil)}, nil, nil, nil)
		}
	}
	for _, key := range []uint64{order / 2, order} {
		if power.Right(power.Public(key)) {
			t.Errorf("the public key of %d is valid", key)
		}
	}
}

// P8.2: private keys with one public key open one text, for all that they do
// goes by powers of powers of 3.
func TestOpenSamePublic(t *testing.T) {
	s := sealed(t, power.Public(5), text(3), text(5), text(40), text(32))
	for _, key := range []uint64{5, order + 5, 8*order + 5} {
		checkOpen(t, key, s, text(3), text(5), text(40))
	}
}

// P8.2: a key is one from 1 to P - 2. Numbers beyond have powers too, so that
// some of them would open the text.
func TestOpenKey(t *testing.T) {
	for _, key := range []uint64{1, 2, 5, prime - 2} {
		s := sealed(t, power.Public(key), text(3), text(5), text(40), text(32))
		checkOpen(t, key, s, text(3), text(5), text(40))
		for _, wrong := range []uint64{0, prime - 1, prime, prime + 1, prime - 1 + key, 2*(prime-1) + key, 1 << 63, 1<<63 + key, most - 1, most} {
			checkOpenFails(t, "a key out of range", wrong, s, text(3), text(5), api.ErrKey)
		}
	}
}

// P8.2: From is one from 2 to P - 2, also if the text would be right for it.
func TestOpenFrom(t *testing.T) {
	const key = 5
	info, beside, plain := text(3), text(5), text(40)
	for _, from := range []uint64{0, 1, prime - 1, prime, prime + 1, prime + 2, prime + 3, 2*prime + 4, 1 << 63, most - 1, most} {
		b := expected(t, raised(from, key), from, raised(3, key), info, beside, plain)
		checkOpenFails(t, "From is not valid", key, api.Sealed{From: from, Text: b}, info, beside, api.ErrKey)
	}
}

// P8.2: an info that is too long, which a wrong key precedes, and which
// precedes a text that is too short or not right.
func TestOpenInfo(t *testing.T) {
	s := sealed(t, power.Public(5), nil, text(5), text(40), text(32))
	short := api.Sealed{From: s.From, Text: s.Text[:3]}
	for _, n := range []int{65536, 65537, 1 << 17, 1<<20 + 3} {
		checkOpenFails(t, "an info that is too long", 5, s, text(n), text(5), api.ErrArg)
		checkOpenFails(t, "an info that is too long, a short text", 5, short, text(n), text(5), api.ErrArg)
		checkOpenFails(t, "an info that is too long, no text", 5, api.Sealed{From: s.From}, text(n), nil, api.ErrArg)
		for _, key := range []uint64{0, prime - 1, most} {
			checkOpenFails(t, "an info that is too long, a wrong key", key, s, text(n), text(5), api.ErrKey)
		}
		for _, from := range []uint64{0, 1, prime - 1, most} {
			checkOpenFails(t, "an info that is too long, a wrong From", 5, api.Sealed{From: from, Text: s.Text}, text(n), text(5), api.ErrKey)
		}
	}
	checkOpenFails(t, "an info of 65535 octets", 5, s, text(65535), text(5), api.ErrAuth)
}

// P8.2: a text of fewer than 16 octets is too short, and a wrong key comes first.
func TestOpenShort(t *testing.T) {
	s := sealed(t, power.Public(5), nil, nil, nil, text(32))
	checkOpen(t, 5, s, nil, nil, nil)
	for n := range 16 {
		short := api.Sealed{From: s.From, Text: s.Text[:n]}
		checkOpenFails(t, "a short text", 5, short, nil, nil, api.ErrShort)
		checkOpenFails(t, "a short text, a wrong key", 0, short, nil, nil, api.ErrKey)
		checkOpenFails(t, "a short text, a wrong From", 5, api.Sealed{From: 1, Text: s.Text[:n]}, nil, nil, api.ErrKey)
	}
	for _, b := range none() {
		checkOpenFails(t, "no text", 5, api.Sealed{From: s.From, Text: b}, b, b, api.ErrShort)
	}
	checkOpenFails(t, "the zero value", 5, api.Sealed{}, nil, nil, api.ErrKey)
	checkOpenFails(t, "the zero value, the key 0", 0, api.Sealed{}, nil, nil, api.ErrKey)
}

// P8.2: whatever is not as it was sealed is not opened.
func TestOpenChanged(t *testing.T) {
	const key = 12345678901
	info, beside := text(3), text(5)
	s := sealed(t, power.Public(key), info, beside, text(40), text(32))
	for i := range s.Text {
		for bit := range 8 {
			checkOpenFails(t, "a changed text", key, api.Sealed{From: s.From, Text: changed(s.Text, i, 1<<bit)}, info, beside, api.ErrAuth)
		}
	}
	for n := 16; n < len(s.Text); n++ {
		checkOpenFails(t, "a shorter text", key, api.Sealed{From: s.From, Text: s.Text[:n]}, info, beside, api.ErrAuth)
	}
	checkOpenFails(t, "a longer text", key, api.Sealed{From: s.From, Text: append(bytes.Clone(s.Text), 0)}, info, beside, api.ErrAuth)
	for _, from := range []uint64{s.From - 1, s.From + 1, prime - s.From, power.Public(key), 2, prime - 2} {
		checkOpenFails(t, "another From", key, api.Sealed{From: from, Text: s.Text}, info, beside, api.ErrAuth)
	}
	for _, other := range []uint64{key - 1, key + 1, prime - 1 - key, drawnKey(text(32)), 1, prime - 2, order} {
		checkOpenFails(t, "another key", other, s, info, beside, api.ErrAuth)
	}
	for _, b := range [][]byte{nil, text(2), text(4), changed(text(3), 0, 1), changed(text(3), 2, 128), text(5), text(65535)} {
		checkOpenFails(t, "another info", key, s, b, beside, api.ErrAuth)
	}
	for _, b := range [][]byte{nil, text(4), text(6), changed(text(5), 0, 1), changed(text(5), 4, 128), text(3), text(70000)} {
		checkOpenFails(t, "other associated data", key, s, info, b, api.ErrAuth)
	}
	checkOpenFails(t, "the info and the data exchanged", key, s, beside, info, api.ErrAuth)
	checkOpen(t, key, s, info, beside, text(40))
}

// P8.2: both public keys belong to the secret, and not only what is shared: the
// same number is shared if both sides are exchanged.
func TestOpenExchanged(t *testing.T) {
	draw := text(32)
	own, key := power.Key(draw), uint64(77)
	s := sealed(t, power.Public(key), nil, nil, text(40), draw)
	checkOpen(t, key, s, nil, nil, text(40))
	checkOpenFails(t, "the sides exchanged", own, api.Sealed{From: power.Public(key), Text: s.Text}, nil, nil, api.ErrAuth)
}

// written is what Write writes.
func written(t *testing.T, s api.Sealed) []byte {
	t.Helper()
	p := wire.New()
	hpke.Write(p, s)
	b, ok := p.Bytes()
	if !ok {
		t.Fatalf("Write of %d octets: the writer is bad", len(s.Text))
	}
	return b
}

// encoded is the same, laid out by hand.
func encoded(from uint64, length int, text []byte) []byte {
	b := binary.BigEndian.AppendUint16(eight(from), uint16(length))
	return append(b, text...)
}

// P8.3: any value is written, behind what was written before.
func TestWrite(t *testing.T) {
	for _, from := range []uint64{0, 1, 2, 0x0102030405060708, prime - 2, prime - 1, prime, 1 << 63, most} {
		for _, n := range []int{0, 1, 15, 16, 20, 255, 256, 257, 65534, 65535} {
			if got := written(t, api.Sealed{From: from, Text: text(n)}); !bytes.Equal(got, encoded(from, n, text(n))) {
				t.Errorf("from %d, %d octets: got %d octets", from, n, len(got))
			}
		}
	}
	for _, b := range none() {
		if got := written(t, api.Sealed{From: 9, Text: b}); !bytes.Equal(got, []byte{0, 0, 0, 0, 0, 0, 0, 9, 0, 0}) {
			t.Errorf("no text: got %x", got)
		}
	}
	p := wire.New()
	p.U8(7)
	hpke.Write(p, api.Sealed{From: 2, Text: []byte("ab")})
	hpke.Write(p, api.Sealed{From: 3, Text: []byte("c")})
	p.U8(8)
	if got, ok := p.Bytes(); !ok || !bytes.Equal(got, octets(t, "07000000000000000200026162000000000000000300016308")) {
		t.Errorf("two values: got %x, %v", got, ok)
	}
}

// P8.3: a text that is too long for a long string makes the writer bad, and a
// bad writer stays bad.
func TestWriteBad(t *testing.T) {
	for _, n := range []int{65536, 65537, 1 << 17} {
		p := wire.New()
		hpke.Write(p, api.Sealed{From: 5, Text: text(n)})
		if b, ok := p.Bytes(); ok || len(b) != 0 {
			t.Errorf("a text of %d octets: got %d octets, %v", n, len(b), ok)
		}
		hpke.Write(p, api.Sealed{From: 5, Text: text(3)})
		if b, ok := p.Bytes(); ok || len(b) != 0 {
			t.Errorf("behind a text of %d octets: got %d octets, %v", n, len(b), ok)
		}
	}
}

// checkRead reads what can be read, and leaves what is behind it.
func checkRead(t *testing.T, b []byte, most int, want api.Sealed, left int) {
	t.Helper()
	e := wire.Open(b)
	s := hpke.Read(e, most)
	if e.Err() != api.OK || s.From != want.From || !bytes.Equal(s.Text, want.Text) || e.Left() != left {
		t.Errorf("most %d, from %d, %d octets: got from %d, %d octets, %d left, %v", most, want.From, len(want.Text), s.From, len(s.Text), e.Left(), e.Err())
	}
}

// checkReadFails reads what cannot be read.
func checkReadFails(t *testing.T, what string, b []byte, most int, want api.Errno) {
	t.Helper()
	e := wire.Open(b)
	s := hpke.Read(e, most)
	if e.Err() != want || e.End() != want || s.From != 0 || len(s.Text) != 0 {
		t.Errorf("%s: got from %d, %d octets, %v, want %v", what, s.From, len(s.Text), e.Err(), want)
	}
	if again := hpke.Read(e, 65535); e.Err() != want || again.From != 0 || len(again.Text) != 0 {
		t.Errorf("%s, again: got from %d, %d octets, %v, want %v", what, again.From, len(again.Text), e.Err(), want)
	}
}

// P8.3: what was written is read, of up to most octets.
func TestRead(t *testing.T) {
	for _, from := range []uint64{2, 3, 0x0102030405060708, 1 << 60, prime - 3, prime - 2} {
		for _, n := range []int{0, 1, 15, 16, 20, 255, 256, 257, 65534, 65535} {
			s := api.Sealed{From: from, Text: text(n)}
			b := written(t, s)
			for _, most := range []int{n, n + 1, 65535, 65536, 1 << 60} {
				checkRead(t, b, most, s, 0)
			}
			checkRead(t, append(bytes.Clone(b), 1, 2, 3), n, s, 3)
			for _, most := range []int{n - 1, n / 2, -1, -1 << 63} {
				if most < n {
					checkReadFails(t, "a text that is too long", b, most, api.ErrLong)
				}
			}
		}
	}
}

// P8.3: most of 0 allows a text of no octets only.
func TestReadMostNone(t *testing.T) {
	checkRead(t, encoded(5, 0, nil), 0, api.Sealed{From: 5}, 0)
	checkReadFails(t, "a text of one octet", encoded(5, 1, []byte("a")), 0, api.ErrLong)
	checkReadFails(t, "a text of one octet that is missing", encoded(5, 1, nil), 0, api.ErrLong)
}

// P8.3: several values are read in order, between others.
func TestReadOrder(t *testing.T) {
	p := wire.New()
	p.U8(7)
	hpke.Write(p, api.Sealed{From: 2, Text: []byte("ab")})
	hpke.Write(p, api.Sealed{From: 3, Text: []byte("c")})
	p.U8(8)
	b, _ := p.Bytes()
	e := wire.Open(b)
	first := e.U8()
	one, other := hpke.Read(e, 2), hpke.Read(e, 2)
	last := e.U8()
	if first != 7 || one.From != 2 || string(one.Text) != "ab" || other.From != 3 || string(other.Text) != "c" || last != 8 || e.End() != api.OK {
		t.Errorf("got %d, %v, %v, %d, %v", first, one, other, last, e.End())
	}
}

// P8.3: each shorter part of what was written is too short.
func TestReadShort(t *testing.T) {
	b := written(t, api.Sealed{From: 1 << 50, Text: text(20)})
	for n := range b {
		checkReadFails(t, "a shorter part", b[:n], 20, api.ErrShort)
		checkReadFails(t, "a shorter part", b[:n], 65535, api.ErrShort)
	}
	for _, none := range none() {
		checkReadFails(t, "nothing", none, 20, api.ErrShort)
	}
}

// P8.3: From is one from 2 to P - 2, and is the first that can be wrong: also
// if Text is too long or not there. If From itself is cut, it is too short.
func TestReadFrom(t *testing.T) {
	for _, from := range []uint64{0, 1, prime - 1, prime, prime + 1, prime + 2, prime + 3, 1 << 63, 1<<63 + 5, most - 1, most} {
		b := encoded(from, 20, text(20))
		checkReadFails(t, "From is not valid", b, 20, api.ErrKey)
		checkReadFails(t, "From is not valid, a long text", b, 19, api.ErrKey)
		checkReadFails(t, "From is not valid, no text is allowed", b, -1, api.ErrKey)
		for n := range b {
			want := api.ErrKey
			if n < 8 {
				want = api.ErrShort
			}
			checkReadFails(t, "From is not valid, and cut", b[:n], 20, want)
		}
	}
}

// P8.3: a text that is both too long and cut is too long, since its length
// comes first.
func TestReadLongAndCut(t *testing.T) {
	b := encoded(5, 21, text(21))
	for n := 10; n <= len(b); n++ {
		checkReadFails(t, "a long text, cut", b[:n], 20, api.ErrLong)
	}
	checkReadFails(t, "a length that is cut", b[:9], 20, api.ErrShort)
}

// P8.3: a reader that has failed before keeps its error and what is left.
func TestReadFailed(t *testing.T) {
	for _, from := range []uint64{0, 5, most} {
		for _, x := range []api.Errno{api.ErrForm, api.ErrShort, api.ErrKey, api.ErrLong, -1} {
			e := wire.Open(encoded(from, 20, text(20)))
			e.Fail(x)
			s := hpke.Read(e, 20)
			if e.Err() != x || s.From != 0 || len(s.Text) != 0 || e.Left() != 30 {
				t.Errorf("after %v: got from %d, %d octets, %d left, %v", x, s.From, len(s.Text), e.Left(), e.Err())
			}
		}
	}
}

// P8.3: a text goes through Write and Read to Open.
func TestSent(t *testing.T) {
	key := power.Key([]byte("b"))
	s := sealed(t, power.Public(key), text(3), text(5), text(40), text(32))
	e := wire.Open(written(t, s))
	got := hpke.Read(e, 56)
	if e.End() != api.OK {
		t.Fatal(e.End())
	}
	checkOpen(t, key, got, text(3), text(5), text(40))
}

// P8.4: a result that is changed afterwards changes no later result and no argument.
func TestNewMemory(t *testing.T) {
	info, beside, plain, draw := roomy(text(3)), roomy(text(5)), roomy(text(40)), roomy(text(32))
	unchanged := func(what string) {
		t.Helper()
		for i, b := range [][]byte{info, beside, plain, draw} {
			if want := roomy(text(len(b))); !bytes.Equal(b[:cap(b)][:len(b)+150], want[:len(b)+150]) {
				t.Errorf("%s: argument %d was changed", what, i)
			}
		}
	}
	public := power.Public(5)
	one := sealed(t, public, info, beside, plain, draw)
	other := sealed(t, public, info, beside, plain, draw)
	want := bytes.Clone(other.Text)
	spoil(one.Text)
	if !bytes.Equal(other.Text, want) {
		t.Error("two results of Seal share memory")
	}
	unchanged("Seal")
	third := sealed(t, public, info, beside, plain, draw)
	if !bytes.Equal(third.Text, want) {
		t.Error("a result of Seal that was changed changes a later one")
	}

	first, _ := hpke.Open(5, other, info, beside)
	second, _ := hpke.Open(5, other, info, beside)
	spoil(first)
	if !bytes.Equal(second, plain) || !bytes.Equal(other.Text, want) {
		t.Error("results of Open share memory with each other, or with what was sealed")
	}
	unchanged("Open")
	checkOpen(t, 5, other, info, beside, plain)
}

// P8.4: arguments of each length stay as they were, with their spare capacity.
func TestArgumentsUnchanged(t *testing.T) {
	for _, n := range []int{0, 1, 15, 16, 17, 64, 65, 300} {
		arguments := [][]byte{roomy(text(n)), roomy(text(n)), roomy(text(n)), roomy(text(n))}
		s := sealed(t, 7, arguments[0], arguments[1], arguments[2], arguments[3])
		boxed := roomy(s.Text)
		before := bytes.Clone(boxed[:len(boxed)+150])
		hpke.Open(5, api.Sealed{From: s.From, Text: boxed}, arguments[0], arguments[1])
		hpke.Open(5, api.Sealed{From: 1, Text: boxed}, arguments[0], arguments[1])
		hpke.Write(wire.New(), api.Sealed{From: s.From, Text: boxed})
		if !bytes.Equal(boxed[:len(boxed)+150], before) {
			t.Errorf("%d octets: the sealed text was changed", n)
		}
		for i, b := range arguments {
			if !bytes.Equal(b[:n+150], roomy(text(n))[:n+150]) {
				t.Errorf("%d octets: argument %d was changed", n, i)
			}
		}
	}
}

// P8.4: arguments are not kept: a change of one later changes no result.
func TestArgumentsNotKept(t *testing.T) {
	info, beside, plain, draw := text(3), text(5), text(40), text(32)
	s := sealed(t, power.Public(5), info, beside, plain, draw)
	want := bytes.Clone(s.Text)
	for _, b := range [][]byte{info, beside, plain, draw} {
		spoil(b)
	}
	if !bytes.Equal(s.Text, want) {
		t.Error("a result of Seal has memory of an argument")
	}
	got, _ := hpke.Open(5, s, text(3), text(5))
	spoil(s.Text)
	if !bytes.Equal(got, text(40)) {
		t.Error("a result of Open has memory of an argument")
	}

	p := wire.New()
	hpke.Write(p, api.Sealed{From: 5, Text: want})
	spoil(want)
	if b, _ := p.Bytes(); bytes.Equal(b[10:], want) || len(b) != 66 {
		t.Error("Write keeps the text")
	}
}

// P8.4: what Read returns is new memory too.
func TestReadNewMemory(t *testing.T) {
	b := append(encoded(5, 20, text(20)), encoded(6, 20, text(20))...)
	before := bytes.Clone(b)
	e := wire.Open(b)
	one := hpke.Read(e, 20)
	spoil(one.Text)
	other := hpke.Read(e, 20)
	if e.End() != api.OK || other.From != 6 || !bytes.Equal(other.Text, text(20)) || !bytes.Equal(b, before) {
		t.Errorf("got from %d, %x, %v", other.From, other.Text, e.End())
	}
	spoil(b)
	if !bytes.Equal(other.Text, text(20)) {
		t.Error("a result of Read has memory of what is read")
	}
}

func FuzzBoth(f *testing.F) {
	f.Add(uint64(5), []byte("info"), []byte("beside"), []byte("text"), []byte("draw"))
	f.Add(uint64(0), []byte{}, []byte{}, []byte{}, []byte{})
	f.Fuzz(func(t *testing.T, n uint64, info, beside, plain, draw []byte) {
		key := 1 + n%(prime-2)
		if len(info) > 65535 || !power.Right(power.Public(key)) {
			return
		}
		checkSeal(t, power.Public(key), info, beside, plain, draw)
		checkBoth(t, key, info, beside, plain, draw)
	})
}

func FuzzRead(f *testing.F) {
	f.Add(encoded(5, 3, text(3)), 3)
	f.Add(encoded(most, 3, text(2)), 0)
	f.Fuzz(func(t *testing.T, b []byte, most int) {
		e := wire.Open(b)
		s := hpke.Read(e, most)
		if e.Err() != api.OK {
			if s.From != 0 || len(s.Text) != 0 {
				t.Errorf("got %v beside %v", s, e.Err())
			}
			return
		}
		if got := written(t, s); !power.Right(s.From) || len(s.Text) > most || !bytes.Equal(got, b[:len(b)-e.Left()]) {
			t.Errorf("read %v, written %x", s, got)
		}
		hpke.Open(uint64(most), s, b, b)
	})
}
