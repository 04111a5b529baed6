package seal_test

import (
	"bytes"
	library "crypto/aes"
	"crypto/cipher"
	"crypto/hmac"
	"crypto/sha256"
	"encoding/binary"
	"encoding/hex"
	"math/rand"
	"testing"

	"engrosser/api"
	"engrosser/seal"
)

// text is n octets that differ from their neighbours.
func text(n int) []byte {
	b := make([]byte, n)
	for i := range b {
		b[i] = byte(i*7 + i>>8 + 1)
	}
	return b
}

func octets(t *testing.T, digits string) []byte {
	t.Helper()
	b, err := hex.DecodeString(digits)
	if err != nil {
		t.Fatal(err)
	}
	return b
}

// counting are n octets, each one greater than the one before it.
func counting(first, n int) []byte {
	b := make([]byte, n)
	for i := range b {
		b[i] = byte(first + i)
	}
	return b
}

// nonce ends with the four octets of last.
func nonce(last uint32) []byte {
	return binary.BigEndian.AppendUint32(counting(0xa0, 12), last)
}

// nonces are some whose sums stay below 2^32, reach it or pass it.
func nonces() [][]byte {
	return [][]byte{
		make([]byte, 16), bytes.Repeat([]byte{255}, 16), counting(0xf0, 16),
		nonce(0), nonce(1), nonce(0xff), nonce(0xffff), nonce(0xfffffe), nonce(0x7fffffff), nonce(0x80000000),
		nonce(0xfffffff0), nonce(0xfffffffc), nonce(0xfffffffd), nonce(0xfffffffe), nonce(0xffffffff),
	}
}

// lengths are those around a group's end, and some of many groups.
func lengths() []int {
	return []int{0, 1, 2, 5, 15, 16, 17, 31, 32, 33, 47, 48, 49, 64, 100, 255, 256, 257, 4096, 5000}
}

// none are no octets, in each way there is of it.
func none() [][]byte {
	return [][]byte{nil, {}, make([]byte, 0, 9)}
}

// hidden is a text encrypted by the block cipher of Go's own library. (Its CTR
// mode counts in all octets of the nonce, not in the last four alone.)
func hidden(t *testing.T, key, nonce, text []byte) []byte {
	t.Helper()
	c, err := library.NewCipher(key[:16])
	if err != nil {
		t.Fatal(err)
	}
	out := bytes.Clone(text)
	block := bytes.Clone(nonce)
	mask := make([]byte, 16)
	for i := range out {
		if i%16 == 0 {
			c.Encrypt(mask, block)
			binary.BigEndian.PutUint32(block[12:], binary.BigEndian.Uint32(block[12:])+1)
		}
		out[i] ^= mask[i%16]
	}
	return out
}

// tag is the tag of an encrypted text, by Go's own library.
func tag(key, nonce, beside, hidden []byte) []byte {
	h := hmac.New(sha256.New, key[16:])
	h.Write(binary.BigEndian.AppendUint32(nil, uint32(len(beside))))
	h.Write(beside)
	h.Write(nonce)
	h.Write(hidden)
	return h.Sum(nil)[:16]
}

// expected is a sealed text by Go's own library.
func expected(t *testing.T, key, nonce, beside, text []byte) []byte {
	t.Helper()
	b := hidden(t, key, nonce, text)
	return append(b, tag(key, nonce, beside, b)...)
}

// sealed seals what can be sealed.
func sealed(t *testing.T, key, nonce, beside, text []byte) []byte {
	t.Helper()
	b, x := seal.Seal(key, nonce, beside, text)
	if x != api.OK {
		t.Fatalf("Seal: %v", x)
	}
	return b
}

// checkSeal holds a sealed text against the library's, and opens it.
func checkSeal(t *testing.T, key, nonce, beside, text []byte) {
	t.Helper()
	b, x := seal.Seal(key, nonce, beside, text)
	if x != api.OK || !bytes.Equal(b, expected(t, key, nonce, beside, text)) {
		t.Errorf("key %x, nonce %x, %d octets beside, %d octets: sealed to %d octets, %v", key, nonce, len(beside), len(text), len(b), x)
	}
	got, x := seal.Open(key, nonce, beside, b)
	if x != api.OK || !bytes.Equal(got, text) {
		t.Errorf("key %x, nonce %x, %d octets beside, %d octets: opened to %d octets, %v", key, nonce, len(beside), len(text), len(got), x)
	}
}

// checkOpenFails opens what cannot be opened.
func checkOpenFails(t *testing.T, what string, key, nonce, beside, b []byte, want api.Errno) {
	t.Helper()
	if got, x := seal.Open(key, nonce, beside, b); x != want || len(got) != 0 {
		t.Errorf("%s: got %d octets, %v, want %v", what, len(got), x, want)
	}
}

// changed is a copy of b with the bits of mask changed in octet i.
func changed(b []byte, i int, mask byte) []byte {
	b = bytes.Clone(b)
	b[i] ^= mask
	return b
}

// P6.1: sealed texts that were made by other programs (openssl's cipher, and
// Python's HMAC), the last of which has the published octets of SP 800-38A.
func TestKnown(t *testing.T) {
	tests := []struct {
		key, nonce   []byte
		beside       string
		text, sealed string
	}{
		{counting(0, 48), counting(0xf0, 16), "", "", "b32bfd394d388250f4ec6d99b0e1bb8a"},
		{counting(0, 48), counting(0xf0, 16), "beside", hex.EncodeToString([]byte("hello")), "0ec2ab845b5a9096e87036c2ca39855fe78beaf10f"},
		{
			counting(0, 48), octets(t, "f0f1f2f3f4f5f6f7f8f9fafbffffffff"), "beside",
			hex.EncodeToString([]byte("a text of more than two blocks, and some")),
			"81f301c31ad196750d2dd08190877c32027df32a05ef5005ba8b4e3cd763db00b3192d795a6a14f34d145b8668cec8b761c16fcaa4407111",
		},
		{
			append(octets(t, "2b7e151628aed2a6abf7158809cf4f3c"), make([]byte, 32)...), counting(0xf0, 16), "",
			"6bc1bee22e409f96e93d7e117393172aae2d8a571e03ac9c9eb76fac45af8e5130c81c46a35ce411e5fbc1191a0a52eff69f2445df4f9b17ad2b417be66c3710",
			"874d6191b620e3261bef6864990db6ce9806f66b7970fdff8617187bb9fffdff5ae4df3edbd5d35e5b4f09020db03eab1e031dda2fbe03d1792170a0f3009ceee7d6b6a224e8fb03bcaf4eb987db8351",
		},
	}
	for i, x := range tests {
		b, e := seal.Seal(x.key, x.nonce, []byte(x.beside), octets(t, x.text))
		if got := hex.EncodeToString(b); e != api.OK || got != x.sealed {
			t.Errorf("%d: sealed to %s, %v", i, got, e)
		}
		b, e = seal.Open(x.key, x.nonce, []byte(x.beside), octets(t, x.sealed))
		if got := hex.EncodeToString(b); e != api.OK || got != x.text {
			t.Errorf("%d: opened to %s, %v", i, got, e)
		}
	}
}

// P6.1: the document's example.
func TestFiveOctets(t *testing.T) {
	for _, beside := range [][]byte{nil, text(100)} {
		if b := sealed(t, text(48), text(16), beside, text(5)); len(b) != 21 {
			t.Errorf("%d octets beside: sealed to %d octets", len(beside), len(b))
		}
	}
}

// P6.1 and P6.3: texts and associated data of each length.
func TestLengths(t *testing.T) {
	for _, n := range lengths() {
		for _, beside := range lengths() {
			checkSeal(t, counting(7, 48), nonce(5), text(beside), text(n))
		}
	}
	for n := range 300 {
		checkSeal(t, counting(7, 48), nonce(5), text(3), text(n))
		checkSeal(t, counting(7, 48), nonce(5), text(n), text(3))
	}
}

// P6.1 and P6.3: a length of associated data that needs three octets, and a text
// of as many groups as need two.
func TestManyOctets(t *testing.T) {
	for _, n := range []int{255, 256, 257, 65535, 65536, 65537, 1 << 17} {
		checkSeal(t, counting(7, 48), nonce(5), text(n), text(20))
	}
	for _, last := range []uint32{0, 255, 65535, 0xffffff80} {
		checkSeal(t, counting(7, 48), nonce(last), text(2), text(16*300+1))
	}
}

// P6.1 and P6.3: the sum of a group's number and the nonce's last four octets
// has no carry into the other twelve.
func TestNonces(t *testing.T) {
	for _, nonce := range nonces() {
		for _, n := range lengths() {
			checkSeal(t, counting(7, 48), nonce, text(4), text(n))
		}
	}
}

// P6.1: after the sum passes 2^32, the groups are those of the nonce that ends
// with zeros.
func TestSumStartsAnew(t *testing.T) {
	key := counting(7, 48)
	zeros := make([]byte, 96)
	from0 := sealed(t, key, nonce(0), nil, zeros)
	for before := 1; before <= 4; before++ {
		b := sealed(t, key, nonce(uint32(-before)), nil, zeros)
		if !bytes.Equal(b[16*before:96], from0[:96-16*before]) {
			t.Errorf("%d groups before 2^32: got %x", before, b)
		}
	}
}

// P6.1: where no sum passes 2^32, the encryption is that of the common CTR mode.
func TestCommonCounterMode(t *testing.T) {
	for _, last := range []uint32{0, 1, 0xfe, 0xff, 0xfffe, 0xffff, 0xffffff, 0x7fffffff, 0xfffffff0} {
		key := counting(7, 48)
		c, err := library.NewCipher(key[:16])
		if err != nil {
			t.Fatal(err)
		}
		want := make([]byte, 250)
		cipher.NewCTR(c, nonce(last)).XORKeyStream(want, text(250))
		if b := sealed(t, key, nonce(last), text(4), text(250)); !bytes.Equal(b[:250], want) {
			t.Errorf("%x: got %x", last, b)
		}
	}
}

// P6.1: without associated data, a text or both there is a sealed text too,
// whichever way there is none.
func TestNothing(t *testing.T) {
	key := counting(7, 48)
	for _, a := range none() {
		for _, b := range none() {
			checkSeal(t, key, nonce(5), a, b)
		}
		checkSeal(t, key, nonce(5), a, text(20))
		checkSeal(t, key, nonce(5), text(20), a)
	}
}

// P6.1: every octet of a key and of a nonce matters, and each text is sealed
// otherwise.
func TestEveryOctet(t *testing.T) {
	key, nonce, beside := counting(7, 48), nonce(5), text(20)
	seen := map[string]string{}
	check := func(what string, key, nonce, beside, in []byte) {
		t.Helper()
		checkSeal(t, key, nonce, beside, in)
		b := string(sealed(t, key, nonce, beside, in))
		if at, ok := seen[b]; ok {
			t.Errorf("%s: sealed as %s", what, at)
		}
		seen[b] = what
	}
	in := text(40)
	check("plain", key, nonce, beside, in)
	for i := range key {
		check("key", changed(key, i, 1), nonce, beside, in)
	}
	for i := range nonce {
		check("nonce", key, changed(nonce, i, 0x80), beside, in)
	}
	for i := range beside {
		check("beside", key, nonce, changed(beside, i, 0x10), in)
	}
	for i := range in {
		check("text", key, nonce, beside, changed(in, i, 2))
	}
}

// P6.1: associated data are not encrypted: they change the tag alone.
func TestBesideChangesTheTag(t *testing.T) {
	key, nonce := counting(7, 48), nonce(5)
	plain := sealed(t, key, nonce, nil, text(40))
	for _, n := range []int{1, 16, 1000} {
		b := sealed(t, key, nonce, text(n), text(40))
		if !bytes.Equal(b[:40], plain[:40]) || bytes.Equal(b[40:], plain[40:]) {
			t.Errorf("%d octets beside: got %x", n, b)
		}
	}
}

// P6.1 and P6.2: keys and nonces that don't have their length, with texts that
// would be right and sealed texts that would be too short.
func TestKeysAndNoncesOfOtherLengths(t *testing.T) {
	keys := []int{0, 1, 16, 32, 47, 48, 49, 64, 96}
	all := []int{0, 1, 12, 15, 16, 17, 32, 48}
	for _, k := range keys {
		for _, n := range all {
			if k == 48 && n == 16 {
				continue
			}
			for _, in := range [][]byte{nil, {}, text(1), text(15), text(16), text(40)} {
				if b, x := seal.Seal(text(k), text(n), text(3), in); x != api.ErrArg || len(b) != 0 {
					t.Errorf("Seal, a key of %d octets, a nonce of %d: got %d octets, %v", k, n, len(b), x)
				}
				if b, x := seal.Open(text(k), text(n), text(3), in); x != api.ErrArg || len(b) != 0 {
					t.Errorf("Open, a key of %d octets, a nonce of %d: got %d octets, %v", k, n, len(b), x)
				}
			}
		}
	}
}

// P6.1 and P6.2: keys and nonces that are cut, or longer, are rejected although
// what is left of them, or their beginning, is right.
func TestCutAndLongKeysAndNonces(t *testing.T) {
	key, nonce := counting(7, 48), nonce(5)
	b := sealed(t, key, nonce, text(3), text(40))
	tests := []struct{ key, nonce []byte }{
		{key[:47], nonce}, {key[1:], nonce}, {append(bytes.Clone(key), 0), nonce}, {nil, nonce}, {[]byte{}, nonce},
		{key, nonce[:15]}, {key, nonce[1:]}, {append([]byte{}, key...), append(bytes.Clone(nonce), 0)}, {key, nil}, {key, []byte{}},
		{nil, nil}, {key[:47], nonce[:15]}, {nonce, key}, {key[:16], nonce},
	}
	for i, x := range tests {
		checkOpenFails(t, "cut or long", x.key, x.nonce, text(3), b, api.ErrArg)
		checkOpenFails(t, "cut or long, short", x.key, x.nonce, text(3), b[:15], api.ErrArg)
		checkOpenFails(t, "cut or long, of another tag", x.key, x.nonce, nil, b, api.ErrArg)
		if got, e := seal.Seal(x.key, x.nonce, text(3), text(40)); e != api.ErrArg || len(got) != 0 {
			t.Errorf("%d: Seal: got %d octets, %v", i, len(got), e)
		}
	}
}

// P6.2: every beginning of a sealed text is too short, or has another tag.
func TestShortSealedTexts(t *testing.T) {
	key, nonce := counting(7, 48), nonce(5)
	for _, in := range []int{0, 1, 15, 16, 17, 40} {
		b := sealed(t, key, nonce, text(3), text(in))
		for n := range b {
			want := api.ErrAuth
			if n < 16 {
				want = api.ErrShort
			}
			checkOpenFails(t, "a beginning", key, nonce, text(3), b[:n], want)
			checkOpenFails(t, "an end", key, nonce, text(3), b[len(b)-n:], want)
		}
	}
	for _, b := range none() {
		checkOpenFails(t, "nothing", key, nonce, nil, b, api.ErrShort)
	}
	for n := range 16 {
		checkOpenFails(t, "zeros", key, nonce, nil, make([]byte, n), api.ErrShort)
	}
}

// P6.2: 16 octets are the tag of no text: opened to none if it is the right one.
func TestSealedNothing(t *testing.T) {
	key, nonce := counting(7, 48), nonce(5)
	for _, beside := range [][]byte{nil, text(1), text(100)} {
		b := tag(key, nonce, beside, nil)
		if got, x := seal.Open(key, nonce, beside, b); x != api.OK || len(got) != 0 {
			t.Errorf("%d octets beside: got %x, %v", len(beside), got, x)
		}
		for i := range b {
			checkOpenFails(t, "one octet changed", key, nonce, beside, changed(b, i, 1), api.ErrAuth)
		}
		checkOpenFails(t, "zeros", key, nonce, beside, make([]byte, 16), api.ErrAuth)
	}
}

// P6.2: a sealed text with one bit changed, wherever it is.
func TestChangedSealedTexts(t *testing.T) {
	key, nonce := counting(7, 48), nonce(5)
	for _, n := range []int{0, 1, 15, 16, 17, 40} {
		b := sealed(t, key, nonce, text(3), text(n))
		for i := range 8 * len(b) {
			checkOpenFails(t, "a bit of the sealed text", key, nonce, text(3), changed(b, i/8, 1<<(i%8)), api.ErrAuth)
		}
		for i := range b {
			checkOpenFails(t, "an octet of the sealed text", key, nonce, text(3), changed(b, i, 255), api.ErrAuth)
		}
		checkOpenFails(t, "an octet behind", key, nonce, text(3), append(bytes.Clone(b), 0), api.ErrAuth)
		checkOpenFails(t, "an octet in front", key, nonce, text(3), append([]byte{0}, b...), api.ErrAuth)
	}
}

// P6.2: two octets of the tag that are exchanged, or changed alike.
func TestTagsWithTwoChanges(t *testing.T) {
	key, nonce := counting(7, 48), nonce(5)
	b := sealed(t, key, nonce, text(3), text(20))
	for i := 20; i < 36; i++ {
		for k := 20; k < i; k++ {
			checkOpenFails(t, "changed alike", key, nonce, text(3), changed(changed(b, i, 0x41), k, 0x41), api.ErrAuth)
			if b[i] != b[k] {
				other := bytes.Clone(b)
				other[i], other[k] = b[k], b[i]
				checkOpenFails(t, "exchanged", key, nonce, text(3), other, api.ErrAuth)
			}
		}
	}
}

// P6.2: another second part of the key, another nonce or other associated data.
func TestOpenWithAnother(t *testing.T) {
	key, nonce := counting(7, 48), nonce(5)
	for _, beside := range [][]byte{nil, text(1), text(20)} {
		for _, n := range []int{0, 1, 16, 40} {
			b := sealed(t, key, nonce, beside, text(n))
			for i := 16; i < 48; i++ {
				for bit := range 8 {
					checkOpenFails(t, "another key", changed(key, i, 1<<bit), nonce, beside, b, api.ErrAuth)
				}
			}
			for i := range nonce {
				for bit := range 8 {
					checkOpenFails(t, "another nonce", key, changed(nonce, i, 1<<bit), beside, b, api.ErrAuth)
				}
			}
			for i := range beside {
				checkOpenFails(t, "other data", key, nonce, changed(beside, i, 1), b, api.ErrAuth)
			}
			if len(beside) > 0 {
				checkOpenFails(t, "shorter data", key, nonce, beside[:len(beside)-1], b, api.ErrAuth)
				checkOpenFails(t, "data without their first octet", key, nonce, beside[1:], b, api.ErrAuth)
				checkOpenFails(t, "no data", key, nonce, nil, b, api.ErrAuth)
			}
			checkOpenFails(t, "longer data", key, nonce, append(bytes.Clone(beside), 0), b, api.ErrAuth)
			checkOpenFails(t, "data with an octet in front", key, nonce, append([]byte{0}, beside...), b, api.ErrAuth)
		}
	}
}

// P6.2: a nonce's octet does not pass for one of the associated data, nor one of
// the text for one of the nonce.
func TestPartsAreApart(t *testing.T) {
	key := counting(7, 48)
	all := text(40)
	beside, first, rest := all[:10], all[10:26], all[26:]
	b := append(bytes.Clone(rest), tag(key, first, beside, rest)...)
	if got, x := seal.Open(key, first, beside, b); x != api.OK || !bytes.Equal(got, hidden(t, key, first, rest)) {
		t.Fatalf("got %x, %v", got, x)
	}
	for n := range 25 {
		if n == 10 {
			continue
		}
		moved := append(bytes.Clone(all[n+16:]), b[len(rest):]...)
		checkOpenFails(t, "parts divided elsewhere", key, all[n:n+16], all[:n], moved, api.ErrAuth)
	}
}

// P6.2: the tag does not depend on the first part of the key: with another one,
// what is sealed is opened, to another text.
func TestOpenWithAnotherCipherKey(t *testing.T) {
	key, nonce := counting(7, 48), nonce(0xffffffff)
	for _, n := range []int{0, 1, 16, 40} {
		b := sealed(t, key, nonce, text(3), text(n))
		for i := range 16 {
			other := changed(key, i, 1)
			want := hidden(t, other, nonce, b[:n])
			got, x := seal.Open(other, nonce, text(3), b)
			if x != api.OK || !bytes.Equal(got, want) || n >= 16 && bytes.Equal(got, text(n)) {
				t.Errorf("octet %d, a text of %d: got %x, %v", i, n, got, x)
			}
			if again := sealed(t, other, nonce, text(3), got); !bytes.Equal(again, b) {
				t.Errorf("octet %d, a text of %d: what was opened is sealed to %x", i, n, again)
			}
		}
	}
}

// P6.2: anything with the right tag is opened, to the text that is sealed to it.
func TestOpenAnything(t *testing.T) {
	r := rand.New(rand.NewSource(6))
	for range 500 {
		key, nonce := make([]byte, 48), make([]byte, 16)
		beside, b := make([]byte, r.Intn(50)), make([]byte, r.Intn(100))
		for _, part := range [][]byte{key, nonce, beside, b} {
			r.Read(part)
		}
		b = append(b, tag(key, nonce, beside, b)...)
		got, x := seal.Open(key, nonce, beside, b)
		if x != api.OK || len(got) != len(b)-16 {
			t.Fatalf("got %d octets of %d, %v", len(got), len(b), x)
		}
		if again := sealed(t, key, nonce, beside, got); !bytes.Equal(again, b) {
			t.Errorf("sealed again: got %x, want %x", again, b)
		}
	}
}

// P6.1 and P6.3: any keys, nonces, associated data and texts.
func TestAny(t *testing.T) {
	r := rand.New(rand.NewSource(60))
	for range 1000 {
		key, nonce := make([]byte, 48), make([]byte, 16)
		beside, in := make([]byte, r.Intn(200)), make([]byte, r.Intn(200))
		for _, part := range [][]byte{key, nonce, beside, in} {
			r.Read(part)
		}
		checkSeal(t, key, nonce, beside, in)
	}
}

// roomy is a copy of b with spare capacity that holds something.
func roomy(b []byte) []byte {
	all := append(bytes.Clone(b), bytes.Repeat([]byte{0xee}, 150)...)
	return all[:len(b)]
}

// spoil changes b and its spare capacity.
func spoil(b []byte) {
	b = b[:cap(b)]
	for i := range b {
		b[i] ^= 255
	}
}

// call is one of the functions with its arguments and what it returns.
type call struct {
	name string
	run  func(key, nonce, beside, text []byte) ([]byte, api.Errno)
	args [4][]byte
	want []byte
	err  api.Errno
}

func calls(t *testing.T) []call {
	key, nonce := counting(7, 48), nonce(0xffffffff)
	var all []call
	for _, n := range []int{0, 1, 15, 16, 17, 40, 100} {
		for _, m := range []int{0, 1, 30} {
			beside, in := text(m), text(n)
			b := expected(t, key, nonce, beside, in)
			all = append(all,
				call{"Seal", seal.Seal, [4][]byte{key, nonce, beside, in}, b, api.OK},
				call{"Open", seal.Open, [4][]byte{key, nonce, beside, b}, in, api.OK},
				call{"Seal, a cut key", seal.Seal, [4][]byte{key[:47], nonce, beside, in}, nil, api.ErrArg},
				call{"Seal, a cut nonce", seal.Seal, [4][]byte{key, nonce[:15], beside, in}, nil, api.ErrArg},
				call{"Open, a cut key", seal.Open, [4][]byte{key[:47], nonce, beside, b}, nil, api.ErrArg},
				call{"Open, a cut nonce", seal.Open, [4][]byte{key, nonce[:15], beside, b}, nil, api.ErrArg},
				call{"Open, too short", seal.Open, [4][]byte{key, nonce, beside, b[:15]}, nil, api.ErrShort},
				call{"Open, another tag", seal.Open, [4][]byte{key, nonce, beside, changed(b, n, 1)}, nil, api.ErrAuth},
			)
		}
	}
	return all
}

// roomyArgs are the arguments of c, each in memory of its own with something
// behind it.
func (c call) roomyArgs() [4][]byte {
	var out [4][]byte
	for i, b := range c.args {
		out[i] = roomy(b)
	}
	return out
}

// check runs c with arguments that are equal to its own.
func (c call) check(t *testing.T, args [4][]byte) []byte {
	t.Helper()
	got, x := c.run(args[0], args[1], args[2], args[3])
	if x != c.err || !bytes.Equal(got, c.want) {
		t.Errorf("%s, %d octets: got %x, %v", c.name, len(args[3]), got, x)
	}
	return got
}

// P6.3: what lies in the spare capacity of an argument is no part of it, and
// the arguments are as they were, with their spare capacity.
func TestArgumentsAreNotChanged(t *testing.T) {
	for _, c := range calls(t) {
		args, before := c.roomyArgs(), c.roomyArgs()
		c.check(t, args)
		c.check(t, args)
		for i, b := range args {
			if !bytes.Equal(b[:cap(b)], before[i][:cap(b)]) {
				t.Errorf("%s, %d octets: argument %d was changed", c.name, len(args[3]), i)
			}
		}
	}
}

// P6.3: results share no memory with arguments or with each other, and nothing
// of an argument is kept.
func TestResultsAreNewMemory(t *testing.T) {
	for _, c := range calls(t) {
		args, before := c.roomyArgs(), c.roomyArgs()
		first, second := c.check(t, args), c.check(t, args)
		spoil(first)
		for i, b := range args {
			if !bytes.Equal(b[:cap(b)], before[i][:cap(b)]) {
				t.Errorf("%s, %d octets: a changed result changed argument %d", c.name, len(args[3]), i)
			}
		}
		if !bytes.Equal(second, c.want) {
			t.Errorf("%s, %d octets: a changed result changed another", c.name, len(args[3]))
		}
		c.check(t, args)
		for _, b := range args {
			spoil(b)
		}
		if !bytes.Equal(second, c.want) {
			t.Errorf("%s, %d octets: a changed argument changed a result", c.name, len(args[3]))
		}
		c.check(t, c.args)
	}
}

// P6.3: one slice may be several arguments.
func TestSharedArguments(t *testing.T) {
	all := text(48)
	checkSeal(t, all, all[:16], all, all)
	checkSeal(t, all, all[16:32], all[8:40], all[1:])
	if !bytes.Equal(all, text(48)) {
		t.Error("an argument was changed")
	}
}

// P6.3: a result depends on its own arguments alone, not on calls before it.
func TestCallsAreApart(t *testing.T) {
	all := calls(t)
	for i, c := range all {
		other := all[(i*5+3)%len(all)]
		other.check(t, other.args)
		c.check(t, c.args)
	}
}

// judged is the error of opening b with a key and a nonce of their lengths.
func judged(key, nonce, beside, b []byte) api.Errno {
	end := len(b) - 16
	if end < 0 {
		return api.ErrShort
	}
	if !bytes.Equal(b[end:], tag(key, nonce, beside, b[:end])) {
		return api.ErrAuth
	}
	return api.OK
}

// P6.1, P6.2 and P6.3: any arguments.
func FuzzSeal(f *testing.F) {
	f.Add(text(48), nonce(0xffffffff), text(3), text(40))
	f.Add(text(47), text(16), []byte{}, text(15))
	f.Add(text(48), text(17), text(20), []byte{})
	f.Fuzz(func(t *testing.T, key, nonce, beside, in []byte) {
		b, x := seal.Seal(key, nonce, beside, in)
		got, y := seal.Open(key, nonce, beside, in)
		if len(key) != 48 || len(nonce) != 16 {
			if x != api.ErrArg || len(b) != 0 || y != api.ErrArg || len(got) != 0 {
				t.Errorf("a key of %d octets, a nonce of %d: %v, %v", len(key), len(nonce), x, y)
			}
			return
		}
		if x != api.OK || !bytes.Equal(b, expected(t, key, nonce, beside, in)) {
			t.Errorf("Seal: got %x, %v", b, x)
		}
		if want := judged(key, nonce, beside, in); y != want || y != api.OK && len(got) != 0 {
			t.Errorf("Open, %d octets: got %d octets, %v, want %v", len(in), len(got), y, want)
		}
		if back, z := seal.Open(key, nonce, beside, b); z != api.OK || !bytes.Equal(back, in) {
			t.Errorf("opened again: got %x, %v", back, z)
		}
	})
}
