package crc_test

import (
	"bytes"
	"encoding/binary"
	"hash/crc32"
	"math/bits"
	"math/rand"
	"slices"
	"strings"
	"testing"

	"engrosser/crc"
)

// text is n octets that differ from their neighbours.
func text(n int) []byte {
	b := make([]byte, n)
	for i := range b {
		b[i] = byte(i*7 + i>>8 + 1)
	}
	return b
}

// roomy is a copy of b with something behind it.
func roomy(b []byte) []byte {
	return append(bytes.Clone(b), bytes.Repeat([]byte{0xee}, 50)...)[:len(b)]
}

// whole is b with what is behind it.
func whole(b []byte) []byte {
	return b[:cap(b)]
}

// spoil changes each octet of b and of its spare capacity.
func spoil(b []byte) {
	b = whole(b)
	for i := range b {
		b[i] ^= 255
	}
}

// none are no octets, in each way there is of it.
func none() [][]byte {
	return [][]byte{nil, {}, make([]byte, 0, 9), roomy(nil)}
}

// lengths are some, around those of a checksum and of a sector too.
func lengths() []int {
	return []int{0, 1, 2, 3, 4, 5, 7, 8, 9, 31, 32, 33, 127, 128, 129, 255, 256, 257, 1000}
}

// defined is the checksum as the chapter's Terms have it, bit by bit.
func defined(b []byte) uint32 {
	n := uint32(0xffffffff)
	for _, octet := range b {
		n ^= uint32(octet)
		for range 8 {
			out := n & 1
			n >>= 1
			if out == 1 {
				n ^= 0xedb88320
			}
		}
	}
	return ^n
}

// checked is b and its checksum, by Go's own library.
func checked(b []byte) []byte {
	return binary.BigEndian.AppendUint32(bytes.Clone(b), crc32.ChecksumIEEE(b))
}

// flip is a copy of b with some bits changed, which are counted from the lowest
// one of the first octet on.
func flip(b []byte, places ...int) []byte {
	b = bytes.Clone(b)
	for _, i := range places {
		b[i/8] ^= 1 << (i % 8)
	}
	return b
}

// window is a copy of b in which the bits from one on are changed where the
// pattern has a one, its lowest bit first.
func window(b []byte, from int, pattern uint64) []byte {
	var places []int
	for ; pattern != 0; pattern &= pattern - 1 {
		places = append(places, from+bits.TrailingZeros64(pattern))
	}
	return flip(b, places...)
}

// checkSum holds a checksum against the library's.
func checkSum(t *testing.T, what string, b []byte) {
	t.Helper()
	if got, want := crc.Sum(b), crc32.ChecksumIEEE(b); got != want {
		t.Errorf("%s, %d octets: got %08x, want %08x", what, len(b), got, want)
	}
}

// checkTaken takes what has to be there.
func checkTaken(t *testing.T, what string, b, want []byte) {
	t.Helper()
	if got, ok := crc.Take(b); !ok || !bytes.Equal(got, want) {
		t.Errorf("%s: took %d octets of %d, %v", what, len(got), len(b), ok)
	}
}

// checkRefused takes what can't be taken.
func checkRefused(t *testing.T, what string, b []byte) {
	t.Helper()
	if got, ok := crc.Take(b); ok || len(got) != 0 {
		t.Errorf("%s: took %d octets of %d, %v", what, len(got), len(b), ok)
	}
}

// P11.1: the document's example, and checksums that are published or were made
// by another program (Python's zlib).
func TestKnown(t *testing.T) {
	letters := "abcdefghijklmnopqrstuvwxyz"
	tests := []struct {
		in   string
		want uint32
	}{
		{"123456789", 0xcbf43926},
		{"", 0},
		{"a", 0xe8b7be43},
		{"abc", 0x352441c2},
		{"message digest", 0x20159d7f},
		{letters, 0x4c2750bd},
		{strings.ToUpper(letters) + letters + "0123456789", 0x1fc2e6d2},
		{strings.Repeat("1234567890", 8), 0x7ca94a72},
		{"The quick brown fox jumps over the lazy dog", 0x414fa339},
		{string(counting(32)), 0x91267e8a},
		{string(counting(256)), 0x29058c73},
	}
	for _, x := range tests {
		if got := crc.Sum([]byte(x.in)); got != x.want {
			t.Errorf("%q: got %08x, want %08x", x.in, got, x.want)
		}
	}
}

// counting are n octets, each one greater than the one before it.
func counting(n int) []byte {
	b := make([]byte, n)
	for i := range b {
		b[i] = byte(i)
	}
	return b
}

// P11.1: zeros, whose number matters too, and octets of 255. The values were
// made by another program (Python's zlib).
func TestZerosAndOnes(t *testing.T) {
	tests := []struct {
		n           int
		zeros, ones uint32
	}{
		{0, 0, 0},
		{1, 0xd202ef8d, 0xff000000},
		{2, 0x41d912ff, 0xffff0000},
		{3, 0xff41d912, 0xffffff00},
		{4, 0x2144df1c, 0xffffffff},
		{5, 0xc622f71d, 0xd2fd1072},
		{8, 0x6522df69, 0x2144df1c},
		{16, 0xecbb4b55, 0x3fb3c61a},
		{32, 0x190a55ad, 0xff6cab0b},
		{40, 0xe9ec3db1, 0x8cd04c73},
		{100, 0x9988c6ca, 0x03d28681},
		{128, 0xc2a8fa9d, 0x652d544c},
		{256, 0x0d968558, 0xfea8a821},
		{4096, 0xc71c0011, 0xf154670a},
		{65536, 0xd7978eeb, 0xdeab7e4e},
	}
	for _, x := range tests {
		if got := crc.Sum(make([]byte, x.n)); got != x.zeros {
			t.Errorf("%d zeros: got %08x, want %08x", x.n, got, x.zeros)
		}
		if got := crc.Sum(bytes.Repeat([]byte{255}, x.n)); got != x.ones {
			t.Errorf("%d octets of 255: got %08x, want %08x", x.n, got, x.ones)
		}
	}
	seen := map[uint32]int{}
	for n := range 1000 {
		sum := crc.Sum(make([]byte, n))
		if other, ok := seen[sum]; ok {
			t.Errorf("%d and %d zeros have the checksum %08x", other, n, sum)
		}
		seen[sum] = n
		checkSum(t, "zeros", make([]byte, n))
		checkSum(t, "octets of 255", bytes.Repeat([]byte{255}, n))
	}
}

// P11.1: without an octet there is a checksum too, whichever way there is none.
func TestNoOctets(t *testing.T) {
	if got := crc.Sum(); got != 0 {
		t.Errorf("no parts: got %08x", got)
	}
	for i, parts := range [][][]byte{nil, {}, none(), {nil}, {{}}, {nil, {}, nil}, make([][]byte, 300)} {
		if got := crc.Sum(parts...); got != 0 {
			t.Errorf("%d: got %08x", i, got)
		}
	}
	for i, b := range none() {
		if got := crc.Sum(b); got != 0 {
			t.Errorf("one part without octets, %d: got %08x", i, got)
		}
	}
}

// P11.1: one octet of each value, and each value between others.
func TestEachValue(t *testing.T) {
	seen := map[uint32]bool{}
	for i := range 256 {
		checkSum(t, "one octet", []byte{byte(i)})
		checkSum(t, "an octet between others", []byte{1, byte(i), 255})
		seen[crc.Sum([]byte{byte(i)})] = true
	}
	if len(seen) != 256 {
		t.Errorf("octets of 256 values have %d checksums", len(seen))
	}
}

// P11.1: every length, by the library and by the chapter's definition.
func TestLengths(t *testing.T) {
	for n := range 600 {
		checkSum(t, "a text", text(n))
		if got := crc.Sum(text(n)); got != defined(text(n)) {
			t.Errorf("%d octets: got %08x, by the definition %08x", n, got, defined(text(n)))
		}
	}
}

// P11.1: sequences of the greatest segment's length, and longer ones.
func TestLongSequences(t *testing.T) {
	r := rand.New(rand.NewSource(11))
	for _, n := range []int{65535, 65536, 65537, 1 << 20, 1<<24 + 3} {
		b := make([]byte, n)
		checkSum(t, "zeros", b)
		r.Read(b)
		checkSum(t, "any octets", b)
		if got := crc.Sum(b[:n/3], b[n/3:]); got != crc32.ChecksumIEEE(b) {
			t.Errorf("%d octets, divided: got %08x", n, got)
		}
	}
}

// P11.1: each bit of the sequence changes the checksum.
func TestEveryBitMatters(t *testing.T) {
	for _, n := range []int{1, 2, 3, 4, 5, 8, 33, 129} {
		plain := crc.Sum(text(n))
		for i := range 8 * n {
			b := flip(text(n), i)
			checkSum(t, "a bit changed", b)
			if crc.Sum(b) == plain {
				t.Errorf("%d octets: bit %d doesn't matter", n, i)
			}
		}
	}
}

// P11.1: the parts are joined, wherever they are divided, with empty ones
// between them.
func TestParts(t *testing.T) {
	for _, n := range []int{0, 1, 2, 9, 40, 130} {
		in := text(n)
		want := crc32.ChecksumIEEE(in)
		for i := range n + 1 {
			if got := crc.Sum(in[:i], in[i:]); got != want {
				t.Errorf("%d octets, divided at %d: got %08x", n, i, got)
			}
			if got := crc.Sum(nil, in[:i], nil, []byte{}, in[i:], nil); got != want {
				t.Errorf("%d octets, divided at %d with empty parts: got %08x", n, i, got)
			}
			for k := i; k <= n; k++ {
				if got := crc.Sum(in[:i], in[i:k], in[k:]); got != want {
					t.Errorf("%d octets, divided at %d and %d: got %08x", n, i, k, got)
				}
			}
		}
	}
}

// P11.1: single octets as parts, with and without empty parts between them.
func TestSingleOctets(t *testing.T) {
	for _, n := range lengths() {
		in := text(n)
		want := crc32.ChecksumIEEE(in)
		single := slices.Collect(slices.Chunk(in, 1))
		if got := crc.Sum(single...); got != want {
			t.Errorf("%d octets: got %08x, want %08x", n, got, want)
		}
		var between [][]byte
		for i, part := range single {
			between = append(between, none()[i%4], part, none()[(i+1)%4])
		}
		if got := crc.Sum(between...); got != want {
			t.Errorf("%d octets with empty parts between: got %08x, want %08x", n, got, want)
		}
	}
}

// P11.1: parts of any sizes.
func TestManyParts(t *testing.T) {
	r := rand.New(rand.NewSource(7))
	for range 500 {
		in := make([]byte, r.Intn(700))
		r.Read(in)
		most := 1 + r.Intn(100)
		var parts [][]byte
		for rest := in; len(rest) > 0; {
			n := min(len(rest), r.Intn(most+1))
			parts = append(parts, roomy(rest[:n]))
			rest = rest[n:]
		}
		if got := crc.Sum(parts...); got != crc32.ChecksumIEEE(in) {
			t.Errorf("%d octets in %d parts: got %08x", len(in), len(parts), got)
		}
	}
}

// P11.1: the parts are joined in their order, each as often as it is there.
func TestOrderOfParts(t *testing.T) {
	a, b := []byte("1234"), []byte("56789")
	if got := crc.Sum(a, b); got != 0xcbf43926 {
		t.Errorf("got %08x", got)
	}
	if got := crc.Sum(b, a); got != crc32.ChecksumIEEE([]byte("567891234")) {
		t.Errorf("exchanged: got %08x", got)
	}
	if got := crc.Sum(a, a); got != crc32.ChecksumIEEE([]byte("12341234")) {
		t.Errorf("one part twice: got %08x", got)
	}
}

// P11.2: what With returns, for every length, with room behind the argument and
// without.
func TestWith(t *testing.T) {
	for n := range 300 {
		for _, b := range [][]byte{text(n), roomy(text(n))} {
			if got := crc.With(b); !bytes.Equal(got, checked(text(n))) {
				t.Errorf("%d octets, capacity %d: got %x", n, cap(b), got)
			}
		}
	}
	if got := crc.With([]byte("123456789")); string(got) != "123456789\xcb\xf4\x39\x26" {
		t.Errorf("the document's example: got %x", got)
	}
	for i, b := range none() {
		if got := crc.With(b); !bytes.Equal(got, make([]byte, 4)) {
			t.Errorf("no octets, %d: got %x", i, got)
		}
	}
	for i := range 256 {
		if got := crc.With([]byte{byte(i)}); !bytes.Equal(got, checked([]byte{byte(i)})) {
			t.Errorf("an octet of %d: got %x", i, got)
		}
	}
}

// P11.2: checksums that begin or end with zeros have four octets too.
func TestWithZerosInTheChecksum(t *testing.T) {
	first, last := 0, 0
	for i := range 1 << 16 {
		b := []byte{byte(i >> 8), byte(i), 3}
		got := crc.With(b)
		if !bytes.Equal(got, checked(b)) {
			t.Fatalf("%x: got %x", b, got)
		}
		if got[3] == 0 {
			first++
		}
		if got[6] == 0 {
			last++
		}
		checkTaken(t, "with zeros in the checksum", got, b)
	}
	if first == 0 || last == 0 {
		t.Errorf("%d checksums begin with zero, %d end with it", first, last)
	}
}

// P11.2: what With returns is taken, also with room behind it.
func TestTakeOfWith(t *testing.T) {
	for n := range 300 {
		checkTaken(t, "as it is", crc.With(text(n)), text(n))
		checkTaken(t, "with room behind it", roomy(crc.With(text(n))), text(n))
		checkTaken(t, "made by the library", checked(text(n)), text(n))
	}
	for i := range 256 {
		checkTaken(t, "one octet", crc.With([]byte{byte(i)}), []byte{byte(i)})
	}
	for _, b := range none() {
		checkTaken(t, "no octets", crc.With(b), nil)
	}
	long := text(1 << 20)
	checkTaken(t, "a long sequence", crc.With(long), long)
}

// P11.2: fewer than four octets have no checksum, whatever is behind them.
func TestTakeOfTooFew(t *testing.T) {
	for _, b := range none() {
		checkRefused(t, "no octets", b)
	}
	for n := range 4 {
		checkRefused(t, "zeros", make([]byte, n))
		checkRefused(t, "octets of 255", bytes.Repeat([]byte{255}, n))
		checkRefused(t, "a text", text(n))
		checkRefused(t, "zeros that go on behind", make([]byte, 8)[:n])
		checkRefused(t, "a checked sequence that goes on behind", crc.With(text(9))[:n])
	}
	for i := range 256 {
		checkRefused(t, "one octet", []byte{byte(i)})
	}
}

// P11.2: of four octets only zeros are taken, and nothing is left of them.
func TestTakeOfFour(t *testing.T) {
	zeros := make([]byte, 4)
	checkTaken(t, "four zeros", zeros, nil)
	checkTaken(t, "four zeros with room behind", roomy(zeros), nil)
	for i := range 4 {
		for v := 1; v < 256; v++ {
			b := bytes.Clone(zeros)
			b[i] = byte(v)
			checkRefused(t, "four octets", b)
		}
	}
	for i := range 32 {
		for k := range i {
			checkRefused(t, "four octets with two bits", flip(zeros, i, k))
		}
	}
	checkRefused(t, "four octets of 255", bytes.Repeat([]byte{255}, 4))
}

// P11.2: an octet less, or one more, at either end.
func TestTakeOfOtherLengths(t *testing.T) {
	for _, n := range lengths() {
		b := checked(text(n))
		checkRefused(t, "without its last octet", b[:len(b)-1])
		checkRefused(t, "without its checksum", b[:n])
		if n > 0 {
			checkRefused(t, "without its first octet", b[1:])
			checkRefused(t, "without the last octet ahead of the checksum", slices.Delete(bytes.Clone(b), n-1, n))
		}
		for _, v := range []byte{0, 1, 255, b[len(b)-1], b[0]} {
			checkRefused(t, "with one octet more", append(bytes.Clone(b), v))
			checkRefused(t, "with one octet more ahead", append([]byte{v}, b...))
			checkRefused(t, "with one octet more ahead of the checksum", slices.Insert(bytes.Clone(b), n, v))
		}
	}
	// Zeros, where the length is all that differs.
	for n := range 300 {
		b := checked(make([]byte, n))
		checkRefused(t, "zeros with one more", append([]byte{0}, b...))
		if n > 0 {
			checkRefused(t, "zeros with one less", b[1:])
		}
	}
}

// P11.2: the checksum's octets in any other order, its bits inverted, ahead of
// the sequence, and none of them.
func TestTakeOfOtherChecksums(t *testing.T) {
	for _, n := range lengths()[1:] {
		in := text(n)
		sum := binary.BigEndian.AppendUint32(nil, crc32.ChecksumIEEE(in))
		count := 0
		for _, order := range orders() {
			other := []byte{sum[order[0]], sum[order[1]], sum[order[2]], sum[order[3]]}
			if bytes.Equal(other, sum) {
				continue
			}
			count++
			checkRefused(t, "in another order", append(text(n), other...))
		}
		if count == 0 {
			t.Errorf("%d octets: there is no other order of %x", n, sum)
		}
		checkRefused(t, "inverted", binary.BigEndian.AppendUint32(text(n), ^crc32.ChecksumIEEE(in)))
		checkRefused(t, "bits in reverse", binary.BigEndian.AppendUint32(text(n), bits.Reverse32(crc32.ChecksumIEEE(in))))
		checkRefused(t, "by another polynomial", binary.BigEndian.AppendUint32(text(n), crc32.Checksum(in, crc32.MakeTable(crc32.Castagnoli))))
		checkRefused(t, "ahead", append(sum, in...))
		checkRefused(t, "zeros", append(text(n), 0, 0, 0, 0))
		checkRefused(t, "one more", binary.BigEndian.AppendUint32(text(n), crc32.ChecksumIEEE(in)+1))
		checkRefused(t, "one less", binary.BigEndian.AppendUint32(text(n), crc32.ChecksumIEEE(in)-1))
	}
}

// orders are those of four things.
func orders() [][4]int {
	var out [][4]int
	for i := range 256 {
		order := [4]int{i & 3, i >> 2 & 3, i >> 4 & 3, i >> 6}
		if 1<<order[0]|1<<order[1]|1<<order[2]|1<<order[3] == 15 {
			out = append(out, order)
		}
	}
	return out
}

// P11.2: a sequence that is checked twice is taken twice, and not a third time.
func TestCheckedTwice(t *testing.T) {
	for _, n := range lengths() {
		once := crc.With(text(n))
		twice := crc.With(once)
		if !bytes.Equal(twice, checked(checked(text(n)))) {
			t.Errorf("%d octets: got %x", n, twice)
		}
		checkTaken(t, "twice", twice, once)
		checkTaken(t, "once", once, text(n))
		if n > 0 {
			checkRefused(t, "not checked", text(n))
		}
	}
}

// P11.2: Take agrees with the definition, whatever it is given.
func TestTakeOfAnyOctets(t *testing.T) {
	r := rand.New(rand.NewSource(5))
	for range 20000 {
		b := make([]byte, r.Intn(40))
		r.Read(b)
		want := len(b) >= 4 && crc32.ChecksumIEEE(b[:len(b)-4]) == binary.BigEndian.Uint32(b[len(b)-4:])
		if got, ok := crc.Take(b); ok != want || !ok && len(got) != 0 {
			t.Fatalf("%x: got %x, %v", b, got, ok)
		}
	}
}

// P11.3: each single bit, of the checksum too.
func TestSingleBits(t *testing.T) {
	for _, n := range lengths() {
		for _, in := range [][]byte{text(n), make([]byte, n)} {
			b := checked(in)
			for i := range 8 * len(b) {
				checkRefused(t, "a bit changed", flip(b, i))
			}
		}
	}
}

// patterns are changes within 32 bits: each of one or two of them, of any that
// follow each other, of all but one, of whole octets, of the polynomial's, and
// some of any kind.
func patterns(r *rand.Rand) []uint64 {
	out := []uint64{0xedb88320, 0x04c11db7, 0xdb710641, 0x82608edb, 0xff, 0xff00ff, 0xff0000ff, 0x80000001, 0xaaaaaaaa, 0x55555555}
	for i := range 32 {
		for k := range i + 1 {
			out = append(out, 1<<i|1<<k, 1<<(i+1)-1<<k)
		}
		out = append(out, 0xffffffff^1<<i)
	}
	for range 60 {
		out = append(out, uint64(r.Uint32())|1, uint64(r.Uint32())|1<<31, uint64(r.Uint32())|1|1<<31)
	}
	return out
}

// P11.3: changes within 32 consecutive bits at each place ahead of the checksum.
func TestWindows(t *testing.T) {
	r := rand.New(rand.NewSource(32))
	for _, n := range []int{1, 2, 3, 4, 5, 6, 8, 13, 37} {
		for _, in := range [][]byte{text(n), make([]byte, n), bytes.Repeat([]byte{255}, n)} {
			b := checked(in)
			for _, pattern := range patterns(r) {
				for from := 0; from+bits.Len64(pattern) <= 8*n; from++ {
					checkRefused(t, "a window changed", window(b, from, pattern))
				}
			}
		}
	}
}

// P11.3: the same in a sequence as long as the greatest segment, at its first
// and last octets and between.
func TestWindowsOfLongSequence(t *testing.T) {
	r := rand.New(rand.NewSource(33))
	b := checked(text(65536))
	end := 8 * 65536
	for range 20 {
		pattern := uint64(r.Uint32()) | 1 | 1<<31
		for _, from := range []int{0, 1, 7, 8, r.Intn(end - 32), end - 40, end - 33, end - 32} {
			checkRefused(t, "a window changed", window(b, from, pattern))
		}
	}
	for i := range 16 {
		checkRefused(t, "one of the first bits changed", flip(b, i))
		checkRefused(t, "one of the last bits changed", flip(b, end-1-i))
	}
}

// P11.3: whole octets, up to four that follow each other, by any values.
func TestOctetsOfWindows(t *testing.T) {
	r := rand.New(rand.NewSource(34))
	for _, n := range []int{1, 2, 4, 7, 20} {
		b := checked(text(n))
		for at := range n {
			for v := 1; v < 256; v++ {
				checkRefused(t, "an octet changed", window(b, 8*at, uint64(v)))
			}
			for k := 2; k <= 4 && at+k <= n; k++ {
				for range 100 {
					pattern := uint64(r.Uint32())%(1<<(8*k)) | 1<<r.Intn(8*k)
					checkRefused(t, "octets changed", window(b, 8*at, pattern))
				}
			}
		}
	}
}

// P11.3: no change at all within 32 bits escapes. Since a changed bit changes
// the same bits of the checksum whatever the other bits are (which is seen
// here too), it's enough that what 32 bits change can't cancel out: that none
// of them is a sum of others.
func TestNothingCancelsOut(t *testing.T) {
	r := rand.New(rand.NewSource(35))
	const n = 24
	in := text(n)
	plain := crc.Sum(in)
	var changes []uint32
	for i := range 8 * n {
		changes = append(changes, crc.Sum(flip(in, i))^plain)
	}
	for range 300 {
		other := make([]byte, n)
		r.Read(other)
		want := crc.Sum(other)
		places := r.Perm(8 * n)[:r.Intn(40)]
		for _, i := range places {
			want ^= changes[i]
		}
		if got := crc.Sum(flip(other, places...)); got != want {
			t.Fatalf("bits %v of %x changed: got %08x, want %08x", places, other, got, want)
		}
	}
	for from := 0; from+32 <= 8*n; from++ {
		if !independent(changes[from : from+32]) {
			t.Errorf("from bit %d on: changes cancel out", from)
		}
	}
}

// independent tells whether no number is the XOR of some others.
func independent(numbers []uint32) bool {
	var byTop [33]uint32
	for _, n := range numbers {
		for n != 0 && byTop[bits.Len32(n)] != 0 {
			n ^= byTop[bits.Len32(n)]
		}
		if n == 0 {
			return false
		}
		byTop[bits.Len32(n)] = n
	}
	return true
}

// P11.2 and P11.3: 32 bits are as many as the promise has. A change within 33,
// by the polynomial itself, leaves the checksum as it was, so that by P11.2 the
// changed sequence is taken.
func TestWindowOf33Bits(t *testing.T) {
	const pattern = 1 | 0xedb88320<<1 // the bit shifted out, and what is XORed then
	for _, n := range []int{5, 6, 20} {
		b := checked(text(n))
		for from := 0; from+33 <= 8*n; from++ {
			other := window(b, from, pattern)
			checkTaken(t, "33 bits changed", other, other[:n])
		}
	}
}

// P11.2: of changes that reach from the text into the checksum, the promise of
// 32 bits can't speak: these two are within 32 (the text's last bit and 31 of
// the checksum, and two octets of each), and make a checksum that is right
// again. P11.2 decides.
func TestWindowsIntoTheChecksum(t *testing.T) {
	changes := []struct{ text, sum []byte }{
		{[]byte{0x80}, []byte{0xed, 0xb8, 0x83, 0x20}},
		{[]byte{0x61, 0xd8}, []byte{0xf4, 0xee}},
	}
	for _, x := range changes {
		for _, n := range []int{2, 9, 40} {
			b := checked(text(n))
			for i, v := range x.text {
				b[n-len(x.text)+i] ^= v
			}
			checkRefused(t, "the text changed alone", b)
			for i, v := range x.sum {
				b[n+i] ^= v
			}
			checkTaken(t, "the checksum changed too", b, b[:n])
		}
	}
}

// P11.3: each octet of the checksum, changed to each other value.
func TestOctetsOfTheChecksum(t *testing.T) {
	for _, n := range lengths() {
		for i := range 4 {
			for v := 1; v < 256; v++ {
				b := checked(text(n))
				b[n+i] ^= byte(v)
				checkRefused(t, "an octet of the checksum changed", b)
			}
		}
	}
}

// P11.2: several octets of the checksum changed, by any values.
func TestMoreOfTheChecksum(t *testing.T) {
	r := rand.New(rand.NewSource(36))
	for _, n := range lengths() {
		b := checked(text(n))
		for _, pattern := range patterns(r) {
			checkRefused(t, "bits of the checksum changed", window(b, 8*n, pattern))
		}
	}
}

// P11.3: what With returns is new memory, from its first octet to its last.
func TestWithIsNewMemory(t *testing.T) {
	for _, n := range lengths() {
		for _, in := range [][]byte{text(n), roomy(text(n)), slices.Clip(text(n))} {
			want := checked(text(n))
			first, second := crc.With(in), crc.With(in)
			spoil(first)
			if !bytes.Equal(in, text(n)) || !bytes.Equal(second, want) {
				t.Errorf("%d octets: a changed result changed more", n)
			}
			if got := crc.With(in); !bytes.Equal(got, want) {
				t.Errorf("%d octets: after a changed result: got %x", n, got)
			}
			spoil(in)
			if !bytes.Equal(second, want) {
				t.Errorf("%d octets: a changed argument changed the result", n)
			}
			if got := crc.With(in); !bytes.Equal(got, checked(in)) {
				t.Errorf("%d octets: of a changed argument: got %x", n, got)
			}
		}
	}
}

// P11.3: what Take returns is new memory.
func TestTakeIsNewMemory(t *testing.T) {
	for _, n := range lengths() {
		for _, in := range [][]byte{checked(text(n)), roomy(checked(text(n)))} {
			first, _ := crc.Take(in)
			second, _ := crc.Take(in)
			spoil(first)
			if !bytes.Equal(in, checked(text(n))) || !bytes.Equal(second, text(n)) {
				t.Errorf("%d octets: a changed result changed more", n)
			}
			checkTaken(t, "after a changed result", in, text(n))
			spoil(in)
			if !bytes.Equal(second, text(n)) {
				t.Errorf("%d octets: a changed argument changed the result", n)
			}
			checkRefused(t, "a changed argument", in)
		}
	}
}

// P11.3: appending to a result changes no argument.
func TestAppendingToResults(t *testing.T) {
	in := roomy(checked(text(20)))
	before := bytes.Clone(whole(in))
	got, _ := crc.Take(in)
	_ = append(got, 1, 2, 3, 4, 5)
	_ = append(crc.With(in), 1, 2, 3, 4, 5)
	_ = append(crc.With(in[:3]), 1, 2, 3, 4, 5)
	if !bytes.Equal(whole(in), before) {
		t.Error("the argument was changed")
	}
}

// P11.3: the arguments and the octets behind them are as they were, whether
// there is a result or not.
func TestArgumentsAreNotChanged(t *testing.T) {
	for _, n := range lengths() {
		for _, in := range [][]byte{roomy(text(n)), roomy(checked(text(n)))} {
			before := bytes.Clone(whole(in))
			crc.Sum(in)
			crc.Sum(in, in[:n/2], in[n/2:])
			crc.With(in)
			crc.With(in[:n/2])
			crc.Take(in)
			crc.Take(in[:n/2])
			if !bytes.Equal(whole(in), before) {
				t.Errorf("%d octets: the argument was changed", n)
			}
		}
	}
}

// P11.3: the list of the parts, too, is as it was, with its spare capacity.
func TestListIsNotChanged(t *testing.T) {
	list := [][]byte{text(5), nil, text(60), text(7), text(8)}
	for n := range len(list) + 1 {
		if got := crc.Sum(list[:n]...); got != crc32.ChecksumIEEE(bytes.Join(list[:n], nil)) {
			t.Errorf("%d parts: got %08x", n, got)
		}
		for i, want := range [][]byte{text(5), nil, text(60), text(7), text(8)} {
			if !bytes.Equal(list[i], want) {
				t.Fatalf("%d parts: part %d became %x", n, i, list[i])
			}
		}
	}
}

// Rule 7: a call's result doesn't depend on the calls before it.
func TestCallsAreApart(t *testing.T) {
	for range 3 {
		for _, n := range []int{9, 0, 300, 1} {
			checkSum(t, "again", text(n))
			checkTaken(t, "again", crc.With(text(n)), text(n))
			checkRefused(t, "again", flip(checked(text(n)), 8*n+3))
		}
	}
}

// P11.1 to P11.3: any octets, divided anywhere, and changed within any 32 bits
// ahead of the checksum.
func FuzzChecksums(f *testing.F) {
	f.Add([]byte("123456789"), uint16(4), uint16(8), uint32(0xedb88320))
	f.Add([]byte{0, 0, 0, 0}, uint16(0), uint16(0), uint32(1))
	f.Add([]byte{}, uint16(1), uint16(9), uint32(0))
	f.Fuzz(func(t *testing.T, b []byte, divided, from uint16, pattern uint32) {
		x := int(divided) % (len(b) + 1)
		if got := crc.Sum(b[:x], b[x:]); got != crc32.ChecksumIEEE(b) {
			t.Errorf("%x, divided at %d: got %08x", b, x, got)
		}
		with := crc.With(b)
		if !bytes.Equal(with, checked(b)) {
			t.Errorf("%x: got %x", b, with)
		}
		checkTaken(t, "what With returns", with, b)
		places := 8*len(b) - bits.Len32(pattern)
		if pattern != 0 && places >= 0 {
			checkRefused(t, "a window changed", window(with, int(from)%(places+1), uint64(pattern)))
		}
		right := len(b) >= 4 && crc32.ChecksumIEEE(b[:len(b)-4]) == binary.BigEndian.Uint32(b[len(b)-4:])
		if got, ok := crc.Take(b); ok != right || !ok && len(got) != 0 {
			t.Errorf("%x: took %x, %v", b, got, ok)
		}
	})
}
