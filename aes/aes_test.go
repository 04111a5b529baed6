package aes_test

import (
	"bytes"
	library "crypto/aes"
	"encoding/hex"
	"math/rand"
	"testing"

	"engrosser/aes"
)

// product is the product by its definition: the polynomials are multiplied
// whole, and then the modulus, x^8 + x^4 + x^3 + x + 1, is taken away from the
// highest power down.
func product(a, b byte) byte {
	whole := 0
	for i := range 8 {
		if b>>i&1 == 1 {
			whole ^= int(a) << i
		}
	}
	for i := 14; i >= 8; i-- {
		if whole>>i&1 == 1 {
			whole ^= 0x11b << (i - 8)
		}
	}
	return byte(whole)
}

// box is the S-box value by its definition: the inverse is searched, and the
// bits are added one by one.
func box(c byte) byte {
	inverse := byte(0)
	for b := range 256 {
		if product(c, byte(b)) == 1 {
			inverse = byte(b)
		}
	}
	out := byte(0)
	for i := range 8 {
		bit := byte(0x63) >> i & 1
		for _, k := range []int{0, 4, 5, 6, 7} {
			bit ^= inverse >> ((i + k) % 8) & 1
		}
		out |= bit << i
	}
	return out
}

// block is 16 octets that are written in hexadecimal.
func block(t *testing.T, text string) [16]byte {
	t.Helper()
	b, err := hex.DecodeString(text)
	if err != nil || len(b) != 16 {
		t.Fatalf("%q is no block", text)
	}
	return [16]byte(b)
}

// all is a block of equal octets.
func all(c byte) [16]byte {
	return [16]byte(bytes.Repeat([]byte{c}, 16))
}

// flipped is the block with one bit changed.
func flipped(b [16]byte, bit int) [16]byte {
	b[bit/8] ^= 1 << (bit % 8)
	return b
}

// encrypted and decrypted are what Go's own library has.
func encrypted(t *testing.T, key, b [16]byte) (out [16]byte) {
	t.Helper()
	c, err := library.NewCipher(key[:])
	if err != nil {
		t.Fatal(err)
	}
	c.Encrypt(out[:], b[:])
	return out
}

func decrypted(t *testing.T, key, b [16]byte) (out [16]byte) {
	t.Helper()
	c, err := library.NewCipher(key[:])
	if err != nil {
		t.Fatal(err)
	}
	c.Decrypt(out[:], b[:])
	return out
}

// check holds a block's encryption against the library's.
func check(t *testing.T, key, b [16]byte) {
	t.Helper()
	if got, want := aes.Block(key, b), encrypted(t, key, b); got != want {
		t.Errorf("key %x, block %x: got %x, want %x", key, b, got, want)
	}
}

// blocks are some that the tests take as keys and as blocks.
func blocks(t *testing.T) [][16]byte {
	return [][16]byte{
		all(0), all(0xff), all(1), all(0x80), all(0x52), all(0x63),
		block(t, "000102030405060708090a0b0c0d0e0f"),
		block(t, "00112233445566778899aabbccddeeff"),
		block(t, "2b7e151628aed2a6abf7158809cf4f3c"),
		block(t, "00000000000000000000000000000001"),
		block(t, "80000000000000000000000000000000"),
	}
}

// P5.1: the product of every pair of octets.
func TestMul(t *testing.T) {
	for a := range 256 {
		for b := range 256 {
			if got, want := aes.Mul(byte(a), byte(b)), product(byte(a), byte(b)); got != want {
				t.Errorf("%02x by %02x: got %02x, want %02x", a, b, got, want)
			}
		}
	}
}

// P5.1: products that are published (FIPS 197).
func TestPublishedProducts(t *testing.T) {
	tests := []struct{ a, b, want byte }{
		{0x57, 0x83, 0xc1}, {0x57, 0x02, 0xae}, {0x57, 0x04, 0x47}, {0x57, 0x08, 0x8e}, {0x57, 0x10, 0x07}, {0x57, 0x13, 0xfe},
	}
	for _, x := range tests {
		if got := aes.Mul(x.a, x.b); got != x.want {
			t.Errorf("%02x by %02x: got %02x", x.a, x.b, got)
		}
		if got := aes.Mul(x.b, x.a); got != x.want {
			t.Errorf("%02x by %02x: got %02x", x.b, x.a, got)
		}
	}
}

// P5.1: 0 makes every product 0, and 1 leaves every octet as it is.
func TestMulByZeroAndOne(t *testing.T) {
	for i := range 256 {
		c := byte(i)
		if aes.Mul(c, 0) != 0 || aes.Mul(0, c) != 0 || aes.Mul(c, 1) != c || aes.Mul(1, c) != c {
			t.Errorf("%02x: got %02x, %02x by 0 and %02x, %02x by 1", c, aes.Mul(c, 0), aes.Mul(0, c), aes.Mul(c, 1), aes.Mul(1, c))
		}
	}
}

// P5.1: every octet but 0 has one inverse, and 0 has none.
func TestInverses(t *testing.T) {
	for a := range 256 {
		count := 0
		for b := range 256 {
			if aes.Mul(byte(a), byte(b)) == 1 {
				count++
			}
		}
		if a == 0 && count != 0 || a != 0 && count != 1 {
			t.Errorf("%02x has %d inverses", a, count)
		}
	}
}

// P5.1: the S-box value of every octet, 0 among them.
func TestBox(t *testing.T) {
	for c := range 256 {
		if got, want := aes.Box(byte(c)), box(byte(c)); got != want {
			t.Errorf("%02x: got %02x, want %02x", c, got, want)
		}
	}
}

// P5.1: S-box values that are published: the first row of the table, the last
// one, and the example of the standard.
func TestPublishedBoxes(t *testing.T) {
	first := block(t, "637c777bf26b6fc53001672bfed7ab76")
	last := block(t, "8ca1890dbfe6426841992d0fb054bb16")
	for i := range 16 {
		if got := aes.Box(byte(i)); got != first[i] {
			t.Errorf("%02x: got %02x", i, got)
		}
		if got := aes.Box(byte(0xf0 + i)); got != last[i] {
			t.Errorf("%02x: got %02x", 0xf0+i, got)
		}
	}
	if got := aes.Box(0x53); got != 0xed {
		t.Errorf("53: got %02x", got)
	}
}

// P5.1: encryptions that are published (FIPS 197, SP 800-38A and the known
// answers of AESAVS), with the document's example.
func TestPublishedBlocks(t *testing.T) {
	tests := []struct{ key, block, want string }{
		{"000102030405060708090a0b0c0d0e0f", "00112233445566778899aabbccddeeff", "69c4e0d86a7b0430d8cdb78070b4c55a"},
		{"2b7e151628aed2a6abf7158809cf4f3c", "3243f6a8885a308d313198a2e0370734", "3925841d02dc09fbdc118597196a0b32"},
		{"2b7e151628aed2a6abf7158809cf4f3c", "6bc1bee22e409f96e93d7e117393172a", "3ad77bb40d7a3660a89ecaf32466ef97"},
		{"2b7e151628aed2a6abf7158809cf4f3c", "ae2d8a571e03ac9c9eb76fac45af8e51", "f5d3d58503b9699de785895a96fdbaaf"},
		{"2b7e151628aed2a6abf7158809cf4f3c", "30c81c46a35ce411e5fbc1191a0a52ef", "43b1cd7f598ece23881b00e3ed030688"},
		{"2b7e151628aed2a6abf7158809cf4f3c", "f69f2445df4f9b17ad2b417be66c3710", "7b0c785e27e8ad3f8223207104725dd4"},
		{"00000000000000000000000000000000", "00000000000000000000000000000000", "66e94bd4ef8a2c3b884cfa59ca342b2e"},
		{"00000000000000000000000000000000", "80000000000000000000000000000000", "3ad78e726c1ec02b7ebfe92b23d9ec34"},
		{"00000000000000000000000000000000", "ffffffffffffffffffffffffffffffff", "3f5b8cc9ea855a0afa7347d23e8d664e"},
		{"80000000000000000000000000000000", "00000000000000000000000000000000", "0edd33d3c621e546455bd8ba1418bec8"},
		{"ffffffffffffffffffffffffffffffff", "00000000000000000000000000000000", "a1f6258c877d5fcd8964484538bfc92c"},
		{"ffffffffffffffffffffffffffffffff", "ffffffffffffffffffffffffffffffff", "bcbf217cb280cf30b2517052193ab979"},
	}
	for _, x := range tests {
		if got := aes.Block(block(t, x.key), block(t, x.block)); got != block(t, x.want) {
			t.Errorf("key %s, block %s: got %x", x.key, x.block, got)
		}
	}
}

// P5.1: every one of some blocks with every one of them as key.
func TestKeysAndBlocks(t *testing.T) {
	for _, key := range blocks(t) {
		for _, b := range blocks(t) {
			check(t, key, b)
		}
	}
}

// P5.1: every octet of the key and of the block matters, whatever its value.
func TestEveryOctet(t *testing.T) {
	for i := range 16 {
		for c := range 256 {
			one := all(0x35)
			one[i] = byte(c)
			check(t, one, all(0xca))
			check(t, all(0xca), one)
		}
	}
}

// P5.1: keys that differ in one bit encrypt one block as they must, and each of
// them otherwise.
func TestOneBitOfTheKey(t *testing.T) {
	for _, b := range blocks(t) {
		for _, key := range blocks(t) {
			seen := map[[16]byte]int{aes.Block(key, b): -1}
			for bit := range 128 {
				other := flipped(key, bit)
				check(t, other, b)
				if at, ok := seen[aes.Block(other, b)]; ok {
					t.Errorf("block %x, key %x: bits %d and %d of the key give one encryption", b, key, at, bit)
				}
				seen[aes.Block(other, b)] = bit
			}
		}
	}
}

// P5.1: encryptions of encryptions, each the next block and, every tenth time,
// the next key.
func TestLongChain(t *testing.T) {
	key, b := all(0), all(0)
	wantKey, want := key, b
	for i := range 20000 {
		b, want = aes.Block(key, b), encrypted(t, wantKey, want)
		if i%10 == 9 {
			key, wantKey = b, want
		}
		if b != want {
			t.Fatalf("step %d: got %x, want %x", i, b, want)
		}
	}
}

// P5.1: any keys and blocks.
func TestAnyKeysAndBlocks(t *testing.T) {
	r := rand.New(rand.NewSource(5))
	for range 20000 {
		var key, b [16]byte
		r.Read(key[:])
		r.Read(b[:])
		check(t, key, b)
	}
}

// P5.1: a result depends on its own arguments alone, not on calls before it,
// and the arguments stay as they were.
func TestCallsAreApart(t *testing.T) {
	key, b := block(t, "000102030405060708090a0b0c0d0e0f"), block(t, "00112233445566778899aabbccddeeff")
	first := aes.Block(key, b)
	for _, other := range blocks(t) {
		aes.Block(other, other)
		aes.Box(other[0])
		aes.Mul(other[0], other[1])
		if aes.Block(key, b) != first || aes.Box(0x53) != 0xed || aes.Mul(0x57, 0x83) != 0xc1 {
			t.Errorf("a result changed after block %x", other)
		}
	}
	if key != block(t, "000102030405060708090a0b0c0d0e0f") || b != block(t, "00112233445566778899aabbccddeeff") {
		t.Error("an argument was changed")
	}
}

// P5.2: different octets have different S-box values.
func TestBoxesDiffer(t *testing.T) {
	seen := map[byte]int{}
	for c := range 256 {
		if at, ok := seen[aes.Box(byte(c))]; ok {
			t.Errorf("%02x and %02x: both %02x", at, c, aes.Box(byte(c)))
		}
		seen[aes.Box(byte(c))] = c
	}
}

// P5.2: with one key, blocks that differ in one or two bits are encrypted
// differently.
func TestNearBlocksDiffer(t *testing.T) {
	for _, key := range blocks(t) {
		seen := map[[16]byte][16]byte{}
		near := func(b [16]byte) {
			got := aes.Block(key, b)
			if at, ok := seen[got]; ok {
				t.Errorf("key %x: %x and %x are both encrypted to %x", key, at, b, got)
			}
			seen[got] = b
		}
		near(key)
		for i := range 128 {
			near(flipped(key, i))
			for k := range i {
				near(flipped(flipped(key, i), k))
			}
		}
	}
}

// P5.2: with one key, blocks that count upwards in any two of their octets are
// encrypted differently.
func TestCountedBlocksDiffer(t *testing.T) {
	key := block(t, "2b7e151628aed2a6abf7158809cf4f3c")
	for _, place := range [][2]int{{14, 15}, {0, 5}, {3, 12}} {
		seen := map[[16]byte]int{}
		for n := range 65536 {
			b := all(0xf0)
			b[place[0]], b[place[1]] = byte(n>>8), byte(n)
			got := aes.Block(key, b)
			if at, ok := seen[got]; ok {
				t.Fatalf("octets %v: %d and %d are both encrypted to %x", place, at, n, got)
			}
			seen[got] = n
		}
	}
}

// P5.2: an encryption can be undone, so no other block has it.
func TestBlocksCanBeUndone(t *testing.T) {
	for _, key := range blocks(t) {
		for _, b := range blocks(t) {
			for bit := range 128 {
				other := flipped(b, bit)
				if got := decrypted(t, key, aes.Block(key, other)); got != other {
					t.Errorf("key %x, block %x: undone to %x", key, other, got)
				}
			}
		}
	}
}

// P5.1 and P5.2: any arguments.
func FuzzAes(f *testing.F) {
	f.Add([]byte("0123456789abcdef"), []byte("fedcba9876543210"))
	f.Add([]byte{}, []byte{0xff})
	f.Fuzz(func(t *testing.T, k, a []byte) {
		var key, b [16]byte
		copy(key[:], k)
		copy(b[:], a)
		check(t, key, b)
		if got := decrypted(t, key, aes.Block(key, b)); got != b {
			t.Errorf("key %x, block %x: undone to %x", key, b, got)
		}
		if got := aes.Mul(key[0], b[0]); got != product(key[0], b[0]) {
			t.Errorf("%02x by %02x: got %02x", key[0], b[0], got)
		}
		if got := aes.Box(b[0]); got != box(b[0]) {
			t.Errorf("%02x: got %02x", b[0], got)
		}
	})
}
