package segment_test

import (
	"bytes"
	"crypto/sha256"
	"encoding/binary"
	"encoding/hex"
	"hash/crc32"
	"math"
	"math/big"
	"math/rand"
	"slices"
	"strings"
	"testing"

	"engrosser/api"
	"engrosser/segment"
)

const (
	sector    = 128
	maxText   = 65535
	maxNumber = math.MaxUint32
)

// text is n octets that differ from their neighbours.
func text(n int) []byte {
	b := make([]byte, n)
	for i := range b {
		b[i] = byte(i*7 + i>>8 + 1)
	}
	return b
}

// roomy is a copy of b with something behind it.
func roomy(b []byte) []byte {
	return append(bytes.Clone(b), bytes.Repeat([]byte{0xee}, 200)...)[:len(b)]
}

// whole is b with what is behind it.
func whole(b []byte) []byte {
	return b[:cap(b)]
}

// spoil changes each octet of b and of its spare capacity.
func spoil(b []byte) {
	b = whole(b)
	for i := range b {
		b[i] ^= 255
	}
}

// changed is a copy of b with another octet at a place.
func changed(b []byte, at int, by byte) []byte {
	b = bytes.Clone(b)
	b[at] ^= by
	return b
}

// join is all of the parts, in new memory.
func join(parts ...[]byte) []byte {
	return bytes.Join(parts, nil)
}

// checked is b and its checksum, by Go's own library.
func checked(b []byte) []byte {
	return binary.BigEndian.AppendUint32(bytes.Clone(b), crc32.ChecksumIEEE(b))
}

// digest is the chain after a text, by Go's own library.
func digest(chain, b []byte) []byte {
	sum := sha256.Sum256(join(chain, b))
	return sum[:]
}

// chains are the first chain and others.
func chains() [][]byte {
	return [][]byte{make([]byte, 32), text(32), bytes.Repeat([]byte{255}, 32), digest(nil, nil)}
}

// others are chains that don't have 32 octets.
func others() [][]byte {
	out := [][]byte{nil, {}, make([]byte, 0, 32), roomy(nil), text(32)[:31], roomy(text(31)), roomy(text(33))}
	for _, n := range []int{1, 2, 16, 31, 33, 48, 64, 288, 65568} {
		out = append(out, make([]byte, n), text(n))
	}
	return out
}

// count8 is a number in eight octets.
func count8(count uint64) []byte {
	return binary.BigEndian.AppendUint64(nil, count)
}

// number4 is a number in four octets.
func number4(number int) []byte {
	return binary.BigEndian.AppendUint32(nil, uint32(number))
}

// headOf is a header by the chapter's Terms. Of a number that has more than
// four octets, and of a negative one, it has the last four.
func headOf(number int, count uint64, chain []byte) []byte {
	b := checked(join([]byte("engr"), number4(number), chain, count8(count)))
	return append(b, make([]byte, max(0, sector-len(b)))...)
}

// frameOf is the frame of a text by the chapter's Terms, of any length.
func frameOf(chain, b []byte) []byte {
	return framed(len(b), b, digest(chain, b))
}

// framed is what has the parts of a frame, with a right checksum.
func framed(length int, b, chain []byte) []byte {
	return checked(join(number4(length), b, chain))
}

// footOf is a footer by the chapter's Terms.
func footOf(count uint64, chain []byte) []byte {
	return checked(join([]byte{255, 255, 255, 255}, count8(count), chain))
}

// framesOf are the frames of texts, and the chain after them.
func framesOf(chain []byte, texts ...[]byte) ([]byte, []byte) {
	var out []byte
	for _, b := range texts {
		out = append(out, frameOf(chain, b)...)
		chain = digest(chain, b)
	}
	return out, chain
}

// laid is a segment that begins with the parts, as long as it has to be, but
// of at least some sectors.
func laid(sectors int, parts ...[]byte) []byte {
	b := join(parts...)
	size := max(sectors*sector, (len(b)+sector-1)/sector*sector)
	return append(b, make([]byte, size-len(b))...)
}

// parsed are the contents of a segment, field by field of the chapter's Terms.
func parsed(b []byte, number, count int, chain []byte) (api.Parsed, bool) {
	if len(b)%sector != 0 || len(b) < 2*sector || len(chain) != 32 || count < 0 || number < 0 || number > maxNumber {
		return api.Parsed{}, false
	}
	be := binary.BigEndian
	if string(b[:4]) != "engr" || int(be.Uint32(b[4:])) != number || !bytes.Equal(b[8:40], chain) || int(be.Uint64(b[40:])) != count {
		return api.Parsed{}, false
	}
	if be.Uint32(b[48:]) != crc32.ChecksumIEEE(b[:48]) || strings.Trim(string(b[52:sector]), "\x00") != "" {
		return api.Parsed{}, false
	}
	p := api.Parsed{Chain: bytes.Clone(chain), Used: sector}
	rest := b[sector:]
	for len(rest) > 40 {
		n := int(be.Uint32(rest))
		if n == 0 || n > maxText || n > len(rest)-40 {
			break
		}
		b, after, sum := rest[4:4+n], rest[4+n:36+n], rest[36+n:]
		if !bytes.Equal(after, digest(p.Chain, b)) || be.Uint32(sum) != crc32.ChecksumIEEE(rest[:36+n]) {
			break
		}
		p.Texts = append(p.Texts, b)
		p.Chain = after
		rest = sum[4:]
	}
	p.Used = len(b) - len(rest)
	if len(rest) >= 48 && string(rest[:4]) == "\xff\xff\xff\xff" && be.Uint64(rest[4:]) == uint64(count)+uint64(len(p.Texts)) &&
		bytes.Equal(rest[12:44], p.Chain) && be.Uint32(rest[44:]) == crc32.ChecksumIEEE(rest[:44]) {
		p.Sealed = true
		p.Used += 48
	}
	return p, true
}

// alike tells whether what was parsed is equal.
func alike(a, b api.Parsed) bool {
	return a.Sealed == b.Sealed && a.Used == b.Used && bytes.Equal(a.Chain, b.Chain) && slices.EqualFunc(a.Texts, b.Texts, bytes.Equal)
}

// checkParsed parses what has contents.
func checkParsed(t *testing.T, what string, b []byte, number, count int, chain []byte, want api.Parsed) {
	t.Helper()
	got, ok := segment.Parse(b, number, count, chain)
	if !ok || !alike(got, want) {
		t.Errorf("%s, %d octets: %d texts, chain %x, sealed %v, used %d, %v; want %d texts, chain %x, sealed %v, used %d",
			what, len(b), len(got.Texts), got.Chain, got.Sealed, got.Used, ok, len(want.Texts), want.Chain, want.Sealed, want.Used)
	}
}

// checkNone parses what has no contents.
func checkNone(t *testing.T, what string, b []byte, number, count int, chain []byte) {
	t.Helper()
	got, ok := segment.Parse(b, number, count, chain)
	if ok {
		t.Errorf("%s, %d octets: parsed", what, len(b))
	}
	if !alike(got, api.Parsed{}) {
		t.Errorf("%s, %d octets: %d texts, chain %x, sealed %v, used %d beside a false", what, len(b), len(got.Texts), got.Chain, got.Sealed, got.Used)
	}
}

// checkAny parses what has contents or none, and tells what it has.
func checkAny(t *testing.T, what string, b []byte, number, count int, chain []byte) (api.Parsed, bool) {
	t.Helper()
	want, ok := parsed(b, number, count, chain)
	if ok {
		checkParsed(t, what, b, number, count, chain, want)
	} else {
		checkNone(t, what, b, number, count, chain)
	}
	return want, ok
}

// checkNothing is for no octets where some are not to be.
func checkNothing(t *testing.T, what string, got []byte) {
	t.Helper()
	if len(got) != 0 {
		t.Errorf("%s: %d octets, %x", what, len(got), got[:min(64, len(got))])
	}
}

// checkOctets holds octets against each other.
func checkOctets(t *testing.T, what string, got, want []byte) {
	t.Helper()
	if !bytes.Equal(got, want) {
		t.Errorf("%s: got %x, want %x", what, got[:min(200, len(got))], want[:min(200, len(want))])
	}
}

// decoded are the octets of hexadecimal digits.
func decoded(t *testing.T, digits string) []byte {
	t.Helper()
	b, err := hex.DecodeString(digits)
	if err != nil {
		t.Fatal(err)
	}
	return b
}

// P13.1: headers that were made by another program (Python).
func TestKnownHeads(t *testing.T) {
	counted := make([]byte, 32)
	for i := range counted {
		counted[i] = byte(i)
	}
	tests := []struct {
		number, count int
		chain         []byte
		want          string
	}{
		{0, 0, make([]byte, 32), "656e6772" + "00000000" + strings.Repeat("00", 32) + "0000000000000000" + "5d0dc78e"},
		{2, 5, counted, "656e6772" + "00000002" + "000102030405060708090a0b0c0d0e0f101112131415161718191a1b1c1d1e1f" + "0000000000000005" + "e9c82c35"},
		{1<<32 - 1, 1<<63 - 1, bytes.Repeat([]byte{255}, 32), "656e6772" + "ffffffff" + strings.Repeat("ff", 32) + "7fffffffffffffff" + "17d1aa75"},
	}
	for _, x := range tests {
		got := segment.Head(x.number, x.count, x.chain)
		if len(got) != 128 {
			t.Errorf("a header of %d octets", len(got))
		}
		checkOctets(t, "a header", got, append(decoded(t, x.want), make([]byte, 76)...))
	}
}

// P13.1: the chapter's example, and frames that were made by another program.
func TestKnownFrames(t *testing.T) {
	zeros := make([]byte, 32)
	hello, chain := segment.Frame(zeros, []byte("hello"))
	if len(hello) != 45 {
		t.Errorf("the chapter's example has %d octets", len(hello))
	}
	checkOctets(t, "hello", hello, decoded(t, "0000000568656c6c6fa41de667c15557cbd8acdd71ef0fef5dc73561374baed8330f8adb0e1424cd62ddc5be60"))
	checkOctets(t, "the chain after hello", chain, decoded(t, "a41de667c15557cbd8acdd71ef0fef5dc73561374baed8330f8adb0e1424cd62"))
	you, chain := segment.Frame(chain, []byte("you"))
	checkOctets(t, "you", you, decoded(t, "00000003796f75c8ee8b6fcca46101dee486601141b43f2beadf6049a3240bac77149370faf94f1a5a104f"))
	checkOctets(t, "the chain after you", chain, decoded(t, "c8ee8b6fcca46101dee486601141b43f2beadf6049a3240bac77149370faf94f"))
	long, chain := segment.Frame(zeros, text(maxText))
	if len(long) != 65575 {
		t.Errorf("the longest frame has %d octets", len(long))
	}
	sum := sha256.Sum256(long)
	checkOctets(t, "the longest frame's digest", sum[:], decoded(t, "982f81340f92679116e1424d9b3ec927d60f0af239768b11907ed4b10d930993"))
	checkOctets(t, "the chain after the longest text", chain, decoded(t, "310c6adbf8d5a08bbbff80aa027db325e7fa3258f92c57e944b9ffc32af077c5"))
}

// P13.1: footers that were made by another program.
func TestKnownFoots(t *testing.T) {
	tests := []struct {
		count       int
		chain, want string
	}{
		{0, strings.Repeat("00", 32), "ffffffff" + strings.Repeat("00", 40) + "ffffffff"},
		{7, "c8ee8b6fcca46101dee486601141b43f2beadf6049a3240bac77149370faf94f", "ffffffff0000000000000007c8ee8b6fcca46101dee486601141b43f2beadf6049a3240bac77149370faf94fe0a54191"},
		{1<<63 - 1, strings.Repeat("ff", 32), "ffffffff7fffffffffffffff" + strings.Repeat("ff", 32) + "503f88c9"},
	}
	for _, x := range tests {
		got := segment.Foot(x.count, decoded(t, x.chain))
		if len(got) != 48 {
			t.Errorf("a footer of %d octets", len(got))
		}
		checkOctets(t, "a footer", got, decoded(t, x.want))
	}
}

// numbers are those that a segment may have.
func numbers() []int {
	out := []int{0, 1, 2, 255, 256, 65535, 65536, 1<<31 - 1, 1 << 31, maxNumber - 1, maxNumber}
	for i := range 32 {
		out = append(out, 1<<i)
	}
	return out
}

// wrongNumbers are those that no segment has.
func wrongNumbers() []int {
	return []int{-1, -2, -256, -1 << 31, -1 << 32, 1 - 1<<32, maxNumber + 1, maxNumber + 2, maxNumber + 3, 1 << 33, 1<<40 + 5, 1<<62 + 1, math.MaxInt, math.MaxInt - 1, math.MinInt, math.MinInt + 1, math.MinInt + 2}
}

// counts are some that there may be.
func counts() []int {
	out := []int{0, 1, 2, 255, 256, 65535, 65536, maxNumber, maxNumber + 1, math.MaxInt - 1, math.MaxInt}
	for i := range 63 {
		out = append(out, 1<<i)
	}
	return out
}

// wrongCounts are negative.
func wrongCounts() []int {
	return []int{-1, -2, -5, -256, -1 << 31, -1 << 32, -1 << 62, math.MinInt, math.MinInt + 1, math.MinInt + 5}
}

// P13.1: headers and footers of each number, count and chain.
func TestHeadAndFoot(t *testing.T) {
	for _, chain := range chains() {
		for _, count := range counts() {
			for _, number := range numbers() {
				got := segment.Head(number, count, chain)
				if !bytes.Equal(got, headOf(number, uint64(count), chain)) {
					t.Errorf("Head(%d, %d, %x): got %x", number, count, chain, got)
				}
			}
			if got := segment.Foot(count, chain); !bytes.Equal(got, footOf(uint64(count), chain)) {
				t.Errorf("Foot(%d, %x): got %x", count, chain, got)
			}
		}
	}
}

// P13.1: no header and no footer of what is out of range.
func TestNoHeadAndNoFoot(t *testing.T) {
	for _, chain := range chains() {
		for _, number := range wrongNumbers() {
			for _, count := range slices.Concat(counts(), wrongCounts()) {
				checkNothing(t, "Head of a number out of range", segment.Head(number, count, chain))
			}
		}
		for _, count := range wrongCounts() {
			for _, number := range numbers() {
				checkNothing(t, "Head of a negative count", segment.Head(number, count, chain))
			}
			checkNothing(t, "Foot of a negative count", segment.Foot(count, chain))
		}
	}
	for _, chain := range others() {
		for _, n := range []int{0, 5, maxNumber} {
			checkNothing(t, "Head with another chain", segment.Head(n, n, chain))
			checkNothing(t, "Foot with another chain", segment.Foot(n, chain))
		}
		checkNothing(t, "Head of all that is wrong", segment.Head(-1, -1, chain))
		checkNothing(t, "Foot of all that is wrong", segment.Foot(-1, chain))
	}
}

// checkFrame frames a text that has a frame.
func checkFrame(t *testing.T, what string, chain, b []byte) {
	t.Helper()
	got, after := segment.Frame(chain, b)
	if len(got) != 40+len(b) {
		t.Errorf("%s: %d octets of %d", what, len(got), len(b))
	}
	checkOctets(t, what, got, frameOf(chain, b))
	checkOctets(t, what+", the chain", after, digest(chain, b))
}

// checkNoFrame frames a text that has none.
func checkNoFrame(t *testing.T, what string, chain, b []byte) {
	t.Helper()
	got, after := segment.Frame(chain, b)
	checkNothing(t, what, got)
	checkNothing(t, what+", the chain", after)
}

// P13.1: frames of texts of each length, of each octet, and with room behind.
func TestFrame(t *testing.T) {
	for _, chain := range chains() {
		for n := 1; n < 300; n++ {
			checkFrame(t, "a frame", chain, text(n))
			checkFrame(t, "a frame, with room behind the text", roomy(chain), roomy(text(n)))
		}
		for _, n := range []int{4095, 4096, 32767, 32768, 65368, 65408, maxText - 1, maxText} {
			checkFrame(t, "a frame of a long text", chain, text(n))
			checkFrame(t, "a frame of zeros", chain, make([]byte, n))
		}
		for i := range 256 {
			checkFrame(t, "a frame of one octet", chain, []byte{byte(i)})
		}
		checkFrame(t, "a frame of a frame", chain, frameOf(chain, text(9)))
		checkFrame(t, "a frame of a footer", chain, footOf(1, chain))
		checkFrame(t, "a frame of its own chain", chain, chain)
	}
}

// P13.1: no frames of texts that are too short or too long, nor with other chains.
func TestNoFrame(t *testing.T) {
	for _, chain := range chains() {
		for _, b := range [][]byte{nil, {}, make([]byte, 0, 9), roomy(nil)} {
			checkNoFrame(t, "no text", chain, b)
		}
		for _, n := range []int{maxText + 1, maxText + 2, 1<<16 + 5, 1 << 17, 1<<17 + 1, 1 << 20} {
			checkNoFrame(t, "a text that is too long", chain, text(n))
		}
	}
	for _, chain := range others() {
		for _, n := range []int{0, 1, 5, 31, 32, 33, maxText, maxText + 1} {
			checkNoFrame(t, "another chain", chain, text(n))
		}
	}
}

// fits is what Fits has to tell, by numbers of any size.
func fits(size, used, n int) bool {
	left := new(big.Int).Sub(big.NewInt(int64(size)), big.NewInt(int64(used)))
	return 1 <= n && n <= maxText && left.Cmp(big.NewInt(int64(n)+40+48)) >= 0
}

// P13.1: Fits at the exact number of octets and around it, for each text.
func TestFits(t *testing.T) {
	for n := 1; n <= maxText; n++ {
		if n > 300 && n < maxText-300 && n%97 != 0 {
			continue
		}
		for _, used := range []int{0, 128, 173, 5000, 65536, -1, -128, 1 << 40} {
			size := used + n + 88
			if !segment.Fits(size, used, n) || !segment.Fits(size+1, used, n) || !segment.Fits(size+128, used, n) {
				t.Errorf("a text of %d octets doesn't fit into %d with %d used", n, size, used)
			}
			if segment.Fits(size-1, used, n) || segment.Fits(size, used+1, n) || segment.Fits(size-48, used, n) || segment.Fits(used, size, n) {
				t.Errorf("a text of %d octets fits into less than %d with %d used", n, size, used)
			}
		}
	}
	if !segment.Fits(256, 128, 40) || segment.Fits(256, 128, 41) || segment.Fits(255, 128, 40) || segment.Fits(256, 129, 40) {
		t.Error("two sectors")
	}
}

// extremes are numbers at the ends of what an int, or what is asked for, may be.
func extremes() []int {
	var out []int
	for _, n := range []int{0, 88, 89, 128, 256, 65536, 65623, 65624, 1 << 32, 1 << 62, math.MaxInt - 65623, math.MaxInt - 89, math.MaxInt} {
		out = append(out, n-1, n, -n, 1-n, -1-n)
		if n < math.MaxInt {
			out = append(out, n+1)
		}
	}
	return append(out, math.MinInt, math.MinInt+88, math.MinInt+89, math.MinInt+65622, math.MinInt+65623, math.MinInt+65624)
}

// P13.1: Fits of any numbers, whose difference may be more than an int is.
func TestFitsExtremes(t *testing.T) {
	texts := slices.Concat(extremes(), []int{1, 2, 40, 41, 65534, maxText, maxText + 1, 1<<16 + 40, 1<<32 + 40})
	for _, size := range extremes() {
		for _, used := range extremes() {
			for _, n := range texts {
				if got := segment.Fits(size, used, n); got != fits(size, used, n) {
					t.Errorf("Fits(%d, %d, %d): %v", size, used, n, got)
				}
			}
		}
	}
}

// P13.1: no space for a text that has no frame, however much is left.
func TestFitsOfWrongTexts(t *testing.T) {
	for _, n := range []int{0, -1, -40, -88, -89, -65535, math.MinInt, maxText + 1, maxText + 2, 1 << 17, 1 << 32, math.MaxInt} {
		for _, size := range []int{0, 88, 256, 1 << 20, 1 << 40, math.MaxInt} {
			for _, used := range []int{0, 128, -1, math.MinInt} {
				if segment.Fits(size, used, n) {
					t.Errorf("Fits(%d, %d, %d)", size, used, n)
				}
			}
		}
	}
}

// P13.2: what is no whole number of sectors, at least two, has no contents.
func TestParseSizes(t *testing.T) {
	chain := text(32)
	long := laid(8, headOf(2, 5, chain), frameOf(chain, text(5)))
	for n := range len(long) + 1 {
		for _, b := range [][]byte{long[:n], bytes.Clone(long[:n])} {
			if n%sector != 0 || n < 2*sector {
				checkNone(t, "another length", b, 2, 5, chain)
			} else {
				checkParsed(t, "whole sectors", b, 2, 5, chain, api.Parsed{Texts: [][]byte{text(5)}, Chain: digest(chain, text(5)), Used: 173})
			}
		}
	}
	for _, b := range [][]byte{nil, {}, make([]byte, 0, 256), headOf(2, 5, chain), make([]byte, sector), make([]byte, 2*sector), text(2 * sector), bytes.Repeat([]byte{255}, 2*sector)} {
		checkNone(t, "no header, or one alone", b, 2, 5, chain)
		checkNone(t, "no header, or one alone", b, 0, 0, make([]byte, 32))
	}
	for _, n := range []int{2, 3, 511, 512, 513, 1000} {
		checkParsed(t, "sectors of zeros", laid(n, headOf(0, 0, chain)), 0, 0, chain, api.Parsed{Chain: chain, Used: 128})
	}
}

// P13.2: the header has to be in the first sector, and only there.
func TestParseHeaderElsewhere(t *testing.T) {
	chain := text(32)
	head := headOf(2, 5, chain)
	checkNone(t, "in the second sector", laid(2, make([]byte, sector), head), 2, 5, chain)
	checkNone(t, "an octet later", laid(3, []byte{0}, head), 2, 5, chain)
	checkNone(t, "an octet sooner", laid(2, head[1:]), 2, 5, chain)
	checkNone(t, "a frame instead", laid(2, frameOf(chain, text(5))), 2, 5, chain)
	checkNone(t, "a footer instead", laid(2, footOf(5, chain)), 2, 5, chain)
	checkParsed(t, "two of them", laid(2, head, head), 2, 5, chain, api.Parsed{Chain: chain, Used: 128})
	checkNone(t, "a frame ahead of its padding's end", laid(2, head[:52], frameOf(chain, text(5))), 2, 5, chain)
}

// P13.2: headers with another number, count or chain.
func TestParseOtherHeaders(t *testing.T) {
	for _, chain := range chains() {
		for _, number := range []int{0, 2, 256, maxNumber} {
			for _, count := range []int{0, 5, 256, math.MaxInt} {
				b := laid(2, headOf(number, uint64(count), chain))
				checkParsed(t, "its own header", b, number, count, chain, api.Parsed{Chain: chain, Used: 128})
				for _, other := range slices.Concat(numbers(), wrongNumbers()) {
					if other != number {
						checkNone(t, "another number", b, other, count, chain)
					}
				}
				for _, other := range slices.Concat(counts(), wrongCounts()) {
					if other != count {
						checkNone(t, "another count", b, number, other, chain)
					}
				}
				for _, other := range slices.Concat(chains(), others()) {
					if !bytes.Equal(other, chain) {
						checkNone(t, "another chain", b, number, count, other)
					}
				}
				for i := range 256 {
					checkNone(t, "a chain with another bit", b, number, count, changed(chain, i/8, 1<<(i%8)))
				}
			}
		}
	}
}

// P13.2: what no header can have, in what would be its header otherwise.
func TestParseOutOfRange(t *testing.T) {
	chain := text(32)
	for _, number := range wrongNumbers() {
		checkNone(t, "a number out of range", laid(2, headOf(number, 5, chain)), number, 5, chain)
	}
	for _, count := range wrongCounts() {
		checkNone(t, "a negative count", laid(2, headOf(2, uint64(count), chain)), 2, count, chain)
		b := laid(2, headOf(2, uint64(count), chain), footOf(uint64(count), chain))
		checkNone(t, "a negative count, with a footer", b, 2, count, chain)
	}
	for _, other := range others() {
		checkNone(t, "a chain of another length", laid(2, headOf(2, 5, other)), 2, 5, other)
	}
	zeros := make([]byte, 2*sector)
	for _, number := range []int{-1, 0, maxNumber + 1} {
		for _, count := range []int{-1, 0} {
			for _, other := range [][]byte{nil, make([]byte, 31), make([]byte, 32), make([]byte, 33), make([]byte, 128)} {
				checkNone(t, "zeros", zeros, number, count, other)
			}
		}
	}
}

// P13.2: headers with a changed octet at each place, also of the padding.
func TestParseChangedHeaders(t *testing.T) {
	for _, chain := range chains() {
		b := laid(3, headOf(2, 5, chain), frameOf(chain, text(5)))
		for i := range sector {
			for by := 1; by < 256; by++ {
				checkNone(t, "a changed header", changed(b, i, byte(by)), 2, 5, chain)
			}
		}
	}
	// With a right checksum, so that nothing but the octet itself tells.
	chain := text(32)
	for i := range 48 {
		for by := 1; by < 256; by++ {
			head := checked(changed(headOf(2, 5, chain)[:48], i, byte(by)))
			checkNone(t, "another header", laid(2, head, make([]byte, 76)), 2, 5, chain)
		}
	}
	for _, mark := range []string{"ENGR", "rgne", "\x00\x00\x00\x00", "\xff\xff\xff\xff", "engs", "Engr"} {
		head := headOf(2, 5, chain)
		copy(head, mark)
		checkNone(t, "another mark", laid(2, checked(head[:48]), make([]byte, 76)), 2, 5, chain)
	}
	for _, head := range [][]byte{
		checked(headOf(2, 5, chain)[:124]),
		append(checked(headOf(2, 5, chain)[:52]), make([]byte, 72)...),
		append(headOf(2, 5, chain)[:48], make([]byte, 80)...),
	} {
		checkNone(t, "a checksum elsewhere, or none", laid(2, head), 2, 5, chain)
	}
}

// P13.2: a header whose octets stand in another order.
func TestParseHeaderOrder(t *testing.T) {
	chain := text(32)
	mark, number, count := []byte("engr"), number4(2), count8(5)
	for _, b := range [][]byte{
		join(number, mark, chain, count),
		join(mark, chain, number, count),
		join(mark, number, count, chain),
		join(mark, []byte{2, 0, 0, 0}, chain, count),
		join(mark, number, chain, []byte{5, 0, 0, 0, 0, 0, 0, 0}),
	} {
		checkNone(t, "another order", laid(2, checked(b), make([]byte, 76)), 2, 5, chain)
	}
	sum := binary.LittleEndian.AppendUint32(nil, crc32.ChecksumIEEE(join(mark, number, chain, count)))
	checkNone(t, "a checksum in reverse", laid(2, mark, number, chain, count, sum, make([]byte, 76)), 2, 5, chain)
}

// P13.2: texts of each length, alone and one behind the other.
func TestParseTexts(t *testing.T) {
	chain := text(32)
	var texts [][]byte
	for n := 1; n < 200; n++ {
		checkParsed(t, "one text", laid(2, headOf(2, 5, chain), frameOf(chain, text(n))), 2, 5, chain,
			api.Parsed{Texts: [][]byte{text(n)}, Chain: digest(chain, text(n)), Used: 168 + n})
		texts = append(texts, text(n))
		frames, after := framesOf(chain, texts...)
		checkParsed(t, "texts", laid(2, headOf(2, 5, chain), frames), 2, 5, chain,
			api.Parsed{Texts: texts, Chain: after, Used: 128 + len(frames)})
		checkParsed(t, "texts and a footer", laid(2, headOf(2, 5, chain), frames, footOf(uint64(5+n), after)), 2, 5, chain,
			api.Parsed{Texts: texts, Chain: after, Sealed: true, Used: 128 + len(frames) + 48})
	}
	for i := range 256 {
		one := []byte{byte(i)}
		checkParsed(t, "a text of one octet", laid(2, headOf(2, 5, chain), frameOf(chain, one)), 2, 5, chain,
			api.Parsed{Texts: [][]byte{one}, Chain: digest(chain, one), Used: 169})
	}
	for _, n := range []int{65367, 65368, 65369, maxText - 1, maxText} {
		long, small := text(n), text(3)
		frames, after := framesOf(chain, small, long, small)
		checkParsed(t, "a long text", laid(2, headOf(2, 5, chain), frames), 2, 5, chain,
			api.Parsed{Texts: [][]byte{small, long, small}, Chain: after, Used: 128 + len(frames)})
	}
}

// P13.2: the same text again is another frame, since its chain is another one.
func TestParseSameTexts(t *testing.T) {
	chain := make([]byte, 32)
	one := frameOf(chain, []byte("a"))
	checkParsed(t, "a frame twice", laid(3, headOf(0, 0, chain), one, one), 0, 0, chain,
		api.Parsed{Texts: [][]byte{{'a'}}, Chain: digest(chain, []byte("a")), Used: 169})
	frames, after := framesOf(chain, []byte("a"), []byte("a"))
	checkParsed(t, "a text twice", laid(3, headOf(0, 0, chain), frames), 0, 0, chain,
		api.Parsed{Texts: [][]byte{{'a'}, {'a'}}, Chain: after, Used: 210})
	second := frames[41:]
	checkParsed(t, "the second frame first", laid(3, headOf(0, 0, chain), second, one), 0, 0, chain, api.Parsed{Chain: chain, Used: 128})
}

// P13.2: frames, and footers, up to the segment's last octet, with octets
// behind the segment that aren't its own.
func TestParseFull(t *testing.T) {
	chain := text(32)
	for _, sizes := range [][]int{{88}, {1, 47}, {216}, {88, 88}, {1, 1, 1, 180, 1}, {65368}} {
		var texts [][]byte
		for _, n := range sizes {
			texts = append(texts, text(n))
		}
		frames, after := framesOf(chain, texts...)
		b := join(headOf(2, 5, chain), frames)
		if len(b)%sector != 0 {
			t.Fatalf("%v: %d octets", sizes, len(b))
		}
		want := api.Parsed{Texts: texts, Chain: after, Used: len(b)}
		checkParsed(t, "full", b, 2, 5, chain, want)
		checkParsed(t, "full, with room behind", roomy(b), 2, 5, chain, want)
		behind := join(b, footOf(uint64(5+len(texts)), after))
		checkParsed(t, "full, with a footer behind", behind[:len(b)], 2, 5, chain, want)
		more := join(b, frameOf(after, text(5)))
		checkParsed(t, "full, with a frame behind", more[:len(b)], 2, 5, chain, want)
	}
	for _, n := range []int{40, 168, 65320} {
		after := digest(chain, text(n))
		b := join(headOf(2, 5, chain), frameOf(chain, text(n)), footOf(6, after))
		if len(b)%sector != 0 {
			t.Fatalf("%d: %d octets", n, len(b))
		}
		want := api.Parsed{Texts: [][]byte{text(n)}, Chain: after, Sealed: true, Used: len(b)}
		checkParsed(t, "full, with a footer", b, 2, 5, chain, want)
		checkParsed(t, "full, with a footer and room behind", roomy(b), 2, 5, chain, want)
	}
}

// P13.2: frames and footers that the segment cuts off, wherever it does, the
// rest of them being behind it.
func TestParseCutOff(t *testing.T) {
	chain := text(32)
	head := headOf(2, 5, chain)
	for n := 89; n < 300; n++ {
		b := join(head, frameOf(chain, text(n)))
		for cut := 2 * sector; cut < len(b); cut += sector {
			checkParsed(t, "a frame cut off", b[:cut], 2, 5, chain, api.Parsed{Chain: chain, Used: 128})
		}
	}
	// A first frame moves the next one to each place ahead of the end.
	for n := 1; n <= 88; n++ {
		after := digest(chain, text(n))
		want := api.Parsed{Texts: [][]byte{text(n)}, Chain: after, Used: 168 + n}
		b := join(head, frameOf(chain, text(n)), frameOf(after, text(48)))
		checkParsed(t, "the second frame cut off", b[:256], 2, 5, chain, want)
		b = join(head, frameOf(chain, text(n)), footOf(6, after))
		if n > 40 {
			checkParsed(t, "the footer cut off", b[:256], 2, 5, chain, want)
		}
		b = join(head, frameOf(chain, text(n)), frameOf(after, text(1)), make([]byte, 128))
		if n > 47 {
			checkParsed(t, "the least frame cut off", b[:256], 2, 5, chain, want)
		}
	}
	for _, n := range []int{65369, 65400, maxText} {
		b := join(head, frameOf(chain, text(n)))
		checkParsed(t, "a long frame cut off", b[:65536], 2, 5, chain, api.Parsed{Chain: chain, Used: 128})
	}
}

// P13.2: frames with a changed octet at each place: of the length, the text,
// the chain and the checksum.
func TestParseChangedFrames(t *testing.T) {
	chain := text(32)
	one, two, three := text(9), text(20), text(4)
	frames, after := framesOf(chain, one, two, three)
	b := laid(4, headOf(2, 5, chain), frames, footOf(8, after))
	wants := []api.Parsed{
		{Chain: chain, Used: 128},
		{Texts: [][]byte{one}, Chain: digest(chain, one), Used: 177},
		{Texts: [][]byte{one, two}, Chain: digest(digest(chain, one), two), Used: 237},
		{Texts: [][]byte{one, two, three}, Chain: after, Used: 281},
		{Texts: [][]byte{one, two, three}, Chain: after, Sealed: true, Used: 329},
	}
	checkParsed(t, "nothing changed", b, 2, 5, chain, wants[4])
	for i := 128; i < len(b); i++ {
		whole := 0 // frames that end ahead of the octet
		for whole < 4 && i >= wants[whole+1].Used {
			whole++
		}
		for by := 1; by < 256; by++ {
			checkParsed(t, "an octet changed", changed(b, i, byte(by)), 2, 5, chain, wants[whole])
		}
	}
}

// P13.2: frames of lengths that no text has, with right checksums and chains;
// what is behind them is not read.
func TestParseWrongLengths(t *testing.T) {
	chain := text(32)
	for _, ahead := range [][][]byte{nil, {text(5)}, {text(5), text(60)}} {
		frames, after := framesOf(chain, ahead...)
		want := api.Parsed{Texts: ahead, Chain: after, Used: 128 + len(frames)}
		for _, n := range []int{0, maxText + 1, maxText + 2, maxText + 41, 1 << 17, 1 << 20} {
			for _, behind := range [][]byte{nil, footOf(uint64(5+len(ahead)), after), frameOf(after, text(6)), frameOf(digest(after, text(n)), text(6))} {
				b := laid(2, headOf(2, 5, chain), frames, frameOf(after, text(n)), behind)
				checkParsed(t, "a length of no text", b, 2, 5, chain, want)
			}
		}
		for _, n := range []int{1<<31 - 1, 1 << 31, maxNumber - 40, maxNumber - 1, maxNumber} {
			b := laid(4, headOf(2, 5, chain), frames, framed(n, text(6), digest(after, text(6))))
			checkParsed(t, "a great length", b, 2, 5, chain, want)
		}
	}
}

// P13.2: a frame with a right checksum, but with another length than its text.
func TestParseOtherLengths(t *testing.T) {
	chain := text(32)
	for n := 1; n < 60; n++ {
		for _, length := range []int{n - 1, n + 1, n + 40, n << 8, n << 16, n << 24, 255 - n, maxText} {
			b := laid(600, headOf(2, 5, chain), framed(length, text(n), digest(chain, text(n))))
			checkParsed(t, "another length", b, 2, 5, chain, api.Parsed{Chain: chain, Used: 128})
		}
	}
}

// P13.2: a frame with a right checksum, but with another chain.
func TestParseOtherChains(t *testing.T) {
	chain := text(32)
	for _, ahead := range [][][]byte{nil, {text(5)}} {
		frames, after := framesOf(chain, ahead...)
		want := api.Parsed{Texts: ahead, Chain: after, Used: 128 + len(frames)}
		for _, n := range []int{1, 9, 70} {
			right := digest(after, text(n))
			for i := range 256 {
				b := laid(4, headOf(2, 5, chain), frames, framed(n, text(n), changed(right, i/8, 1<<(i%8))))
				checkParsed(t, "a chain with another bit", b, 2, 5, chain, want)
			}
			for _, other := range [][]byte{after, digest(nil, text(n)), digest(make([]byte, 32), text(n)), digest(right, text(n)), digest(text(n), after), make([]byte, 32), bytes.Repeat([]byte{255}, 32)} {
				b := laid(4, headOf(2, 5, chain), frames, framed(n, text(n), other), footOf(uint64(6+len(ahead)), other))
				checkParsed(t, "another chain", b, 2, 5, chain, want)
			}
		}
	}
}

// P13.2: a frame whose parts stand in another order, or whose checksum is
// another one.
func TestParseFrameOrder(t *testing.T) {
	chain := text(32)
	one := text(9)
	after := digest(chain, one)
	plain := join(number4(9), one, after)
	for _, b := range [][]byte{
		checked(join(number4(9), after, one)),
		checked(join(one, number4(9), after)),
		checked(join([]byte{9, 0, 0, 0}, one, after)),
		checked(join([]byte{0, 9}, one, after)),
		checked(join(number4(9), one)),
		checked(join(number4(9), one, after[:31])),
		join(plain, make([]byte, 4)),
		join(plain, binary.LittleEndian.AppendUint32(nil, crc32.ChecksumIEEE(plain))),
		join(plain, binary.BigEndian.AppendUint32(nil, ^crc32.ChecksumIEEE(plain))),
		join(plain, binary.BigEndian.AppendUint32(nil, crc32.ChecksumIEEE(plain[4:]))),
		join([]byte{0}, frameOf(chain, one)),
	} {
		checkParsed(t, "another order, or checksum", laid(3, headOf(2, 5, chain), b), 2, 5, chain, api.Parsed{Chain: chain, Used: 128})
	}
}

// ends are texts ahead of a footer.
func ends() [][][]byte {
	return [][][]byte{nil, {text(1)}, {text(5), text(3)}, {text(200), text(1), text(1), text(77)}}
}

// P13.2: footers behind no frames and behind some, with other counts and chains.
func TestParseFooters(t *testing.T) {
	for _, chain := range chains() {
		for _, texts := range ends() {
			frames, after := framesOf(chain, texts...)
			for _, count := range []int{0, 5, 255, maxNumber, math.MaxInt - 4} {
				head := headOf(2, uint64(count), chain)
				next := uint64(count + len(texts))
				want := api.Parsed{Texts: texts, Chain: after, Sealed: true, Used: 128 + len(frames) + 48}
				checkParsed(t, "a footer", laid(2, head, frames, footOf(next, after)), 2, count, chain, want)
				want.Sealed, want.Used = false, want.Used-48
				checkParsed(t, "no footer", laid(2, head, frames), 2, count, chain, want)
				for i := range 64 {
					b := laid(2, head, frames, footOf(next^1<<i, after))
					checkParsed(t, "a footer with another count", b, 2, count, chain, want)
				}
				for _, other := range []uint64{next + 1, next - 1, uint64(len(texts)) + 1<<32, 1<<64 - 1, ^next, -next - 1} {
					b := laid(2, head, frames, footOf(other, after))
					checkParsed(t, "a footer with another count", b, 2, count, chain, want)
				}
				for _, other := range [][]byte{digest(after, nil), changed(after, 0, 1), changed(after, 31, 128), changed(after, 15, 16)} {
					b := laid(2, head, frames, footOf(next, other))
					checkParsed(t, "a footer with another chain", b, 2, count, chain, want)
				}
			}
		}
	}
}

// P13.2: a footer with the count and the chain of the segment's beginning,
// behind frames, is none.
func TestParseEarlierFooters(t *testing.T) {
	chain := text(32)
	for _, texts := range ends()[1:] {
		frames, after := framesOf(chain, texts...)
		want := api.Parsed{Texts: texts, Chain: after, Used: 128 + len(frames)}
		for _, foot := range [][]byte{footOf(5, chain), footOf(5, after), footOf(uint64(5+len(texts)), chain)} {
			checkParsed(t, "an earlier footer", laid(2, headOf(2, 5, chain), frames, foot), 2, 5, chain, want)
		}
		checkParsed(t, "the right footer behind another one", laid(2, headOf(2, 5, chain), frames, footOf(5, chain), footOf(uint64(5+len(texts)), after)), 2, 5, chain, want)
		checkParsed(t, "a footer an octet later", laid(2, headOf(2, 5, chain), frames, []byte{0}, footOf(uint64(5+len(texts)), after)), 2, 5, chain, want)
	}
}

// P13.2: footers with other octets, though with right checksums.
func TestParseWrongFooters(t *testing.T) {
	chain := text(32)
	for _, texts := range ends() {
		frames, after := framesOf(chain, texts...)
		want := api.Parsed{Texts: texts, Chain: after, Used: 128 + len(frames)}
		plain := footOf(uint64(5+len(texts)), after)
		for i := range plain {
			for _, by := range []byte{1, 2, 16, 128, 255} {
				b := laid(2, headOf(2, 5, chain), frames, changed(plain, i, by))
				checkParsed(t, "a changed footer", b, 2, 5, chain, want)
				if i < 44 {
					b = laid(2, headOf(2, 5, chain), frames, checked(changed(plain[:44], i, by)))
					checkParsed(t, "another footer", b, 2, 5, chain, want)
				}
			}
			b := laid(2, headOf(2, 5, chain), frames, plain[:i])
			if i < 47 || plain[47] != 0 {
				checkParsed(t, "a part of a footer", b, 2, 5, chain, want)
			}
		}
	}
}

// P13.2: what is behind the footer isn't read, whatever it is.
func TestParseBehindFooter(t *testing.T) {
	chain := text(32)
	for _, texts := range ends() {
		frames, after := framesOf(chain, texts...)
		next := uint64(5 + len(texts))
		want := api.Parsed{Texts: texts, Chain: after, Sealed: true, Used: 128 + len(frames) + 48}
		for _, behind := range [][]byte{
			frameOf(after, text(9)),
			footOf(next, after),
			headOf(3, next, after),
			join(frameOf(after, text(9)), footOf(next+1, digest(after, text(9)))),
			text(500),
			bytes.Repeat([]byte{255}, 100),
			{0}, {1},
		} {
			checkParsed(t, "octets behind the footer", laid(2, headOf(2, 5, chain), frames, footOf(next, after), behind), 2, 5, chain, want)
		}
	}
}

// P13.2: octets behind the last frame that are neither a frame nor a footer.
func TestParseBehindFrames(t *testing.T) {
	chain := text(32)
	r := rand.New(rand.NewSource(13))
	for _, texts := range ends() {
		frames, after := framesOf(chain, texts...)
		want := api.Parsed{Texts: texts, Chain: after, Used: 128 + len(frames)}
		for range 500 {
			behind := make([]byte, r.Intn(300))
			r.Read(behind)
			if r.Intn(2) == 0 {
				copy(behind, []byte{0, 0, 0, byte(1 + r.Intn(60))})
			}
			checkParsed(t, "other octets", laid(2, headOf(2, 5, chain), frames, behind), 2, 5, chain, want)
		}
	}
}

// P13.2: the number of texts after the segment may exceed what an int holds.
func TestParseGreatCounts(t *testing.T) {
	chain := text(32)
	texts := [][]byte{text(1), text(2), text(3), text(4)}
	for _, count := range []int{math.MaxInt, math.MaxInt - 1, math.MaxInt - 2, math.MaxInt - 3} {
		for n := range len(texts) + 1 {
			frames, after := framesOf(chain, texts[:n]...)
			head := headOf(2, uint64(count), chain)
			next := uint64(count) + uint64(n)
			want := api.Parsed{Texts: texts[:n], Chain: after, Sealed: true, Used: 128 + len(frames) + 48}
			checkParsed(t, "a great count", laid(2, head, frames, footOf(next, after)), 2, count, chain, want)
			want.Sealed, want.Used = false, want.Used-48
			checkParsed(t, "a great count without a footer", laid(2, head, frames), 2, count, chain, want)
			for _, other := range []uint64{next - 1, next + 1, next ^ 1<<63, math.MaxInt + 5, 1<<64 - 1} {
				checkParsed(t, "a great count with another footer", laid(2, head, frames, footOf(other, after)), 2, count, chain, want)
			}
		}
	}
	// The first of them as the other program made it.
	zeros := make([]byte, 32)
	hello := []byte("hello")
	foot := decoded(t, "ffffffff8000000000000000a41de667c15557cbd8acdd71ef0fef5dc73561374baed8330f8adb0e1424cd624065ef00")
	checkParsed(t, "2^63 texts", laid(2, headOf(0, math.MaxInt, zeros), frameOf(zeros, hello), foot), 0, math.MaxInt, zeros,
		api.Parsed{Texts: [][]byte{hello}, Chain: digest(zeros, hello), Sealed: true, Used: 221})
}

// P13.1 and P13.2: segments that are filled as long as there is space, with
// their footers, one after the other.
func TestWriteAndParse(t *testing.T) {
	r := rand.New(rand.NewSource(14))
	chain, count := make([]byte, 32), 0
	for number := range 150 {
		size := sector * (2 + r.Intn(40))
		b := segment.Head(number, count, chain)
		after := chain
		var texts [][]byte
		for {
			n := 1 + r.Intn(r.Intn(400)+1)
			if !segment.Fits(size, len(b), n) {
				break
			}
			in := make([]byte, n)
			r.Read(in)
			var frame []byte
			frame, after = segment.Frame(after, in)
			b = append(b, frame...)
			texts = append(texts, in)
		}
		want := api.Parsed{Texts: texts, Chain: after, Used: len(b)}
		padded := append(bytes.Clone(b), make([]byte, size-len(b))...)
		checkParsed(t, "as it was written", padded, number, count, chain, want)
		b = append(b, segment.Foot(count+len(texts), after)...)
		if len(b) > size {
			t.Fatalf("%d octets in a segment of %d", len(b), size)
		}
		want.Sealed, want.Used = true, len(b)
		padded = append(bytes.Clone(b), make([]byte, size-len(b))...)
		checkParsed(t, "as it was sealed", padded, number, count, chain, want)
		checkNone(t, "as the next one", padded, number+1, count, chain)
		chain, count = after, count+len(texts)
	}
	if count < 1000 {
		t.Errorf("%d texts", count)
	}
}

// P13.1 and P13.2: headers, frames and footers at the ends of their ranges, as
// the package itself makes them.
func TestWriteAndParseEnds(t *testing.T) {
	for _, chain := range chains() {
		for _, number := range []int{0, 1, maxNumber} {
			for _, count := range []int{0, 1, math.MaxInt - 1} {
				for _, n := range []int{1, 2, 65534, maxText} {
					frame, after := segment.Frame(chain, text(n))
					b := laid(2, segment.Head(number, count, chain), frame, segment.Foot(count+1, after))
					checkParsed(t, "made by the package", b, number, count, chain,
						api.Parsed{Texts: [][]byte{text(n)}, Chain: after, Sealed: true, Used: 128 + len(frame) + 48})
				}
			}
		}
	}
}

// P13.2: a segment of many texts is read in a time that goes with its length.
func TestParseManyTexts(t *testing.T) {
	chain := make([]byte, 32)
	texts := slices.Collect(slices.Chunk(text(50000), 1))
	frames, after := framesOf(chain, texts...)
	b := laid(2, headOf(0, 0, chain), frames, footOf(uint64(len(texts)), after))
	checkParsed(t, "many texts", b, 0, 0, chain, api.Parsed{Texts: texts, Chain: after, Sealed: true, Used: 128 + len(frames) + 48})
}

// P13.2: segments damaged in any way, by the Terms written anew above.
func TestParseDamaged(t *testing.T) {
	r := rand.New(rand.NewSource(15))
	none, sealed, torn := 0, 0, 0
	for range 20000 {
		chain := chains()[r.Intn(4)]
		var texts [][]byte
		for range r.Intn(6) {
			texts = append(texts, text(1+r.Intn(90)))
		}
		frames, after := framesOf(chain, texts...)
		b := laid(2+r.Intn(6), headOf(3, 7, chain), frames, footOf(uint64(7+len(texts)), after))
		for range r.Intn(3) {
			at := 40 + r.Intn(len(b)-40)
			n := 1 + r.Intn(40)
			switch r.Intn(4) {
			case 0:
				b[at] ^= 1 << r.Intn(8)
			case 1:
				r.Read(b[at:min(len(b), at+n)])
			case 2:
				clear(b[at/sector*sector:][:sector])
			case 3:
				copy(b[at:], b[min(len(b), at+n):])
			}
		}
		got, ok := checkAny(t, "damaged", b, 3, 7, chain)
		switch {
		case !ok:
			none++
		case got.Sealed:
			sealed++
		default:
			torn++
		}
	}
	if none < 1000 || sealed < 1000 || torn < 1000 {
		t.Errorf("%d without contents, %d sealed, %d torn", none, sealed, torn)
	}
}

// checkNewMemory calls for a result twice, changes the first one and then the
// arguments, and sees what else changes.
func checkNewMemory(t *testing.T, what string, call func() []byte, arguments ...[]byte) {
	t.Helper()
	var before [][]byte
	for _, b := range arguments {
		before = append(before, bytes.Clone(whole(b)))
	}
	first, second := call(), call()
	want := bytes.Clone(second)
	spoil(first)
	_ = append(first[:0], 1, 2, 3)
	_ = append(first, 1, 2, 3)
	for i, b := range arguments {
		if !bytes.Equal(whole(b), before[i]) {
			t.Errorf("%s: argument %d was changed", what, i)
		}
	}
	if !bytes.Equal(second, want) {
		t.Errorf("%s: a changed result changed another one", what)
	}
	if got := call(); !bytes.Equal(got, want) {
		t.Errorf("%s: a changed result changed a later one", what)
	}
	for _, b := range arguments {
		spoil(b)
	}
	if !bytes.Equal(second, want) {
		t.Errorf("%s: a changed argument changed the result", what)
	}
}

// P13.3: headers, footers, frames and chains are new memory.
func TestWritingIsNewMemory(t *testing.T) {
	for _, n := range []int{0, 5, math.MaxInt} {
		chain := roomy(text(32))
		checkNewMemory(t, "Head", func() []byte { return segment.Head(min(n, maxNumber), n, chain) }, chain)
		chain = roomy(text(32))
		checkNewMemory(t, "Foot", func() []byte { return segment.Foot(n, chain) }, chain)
	}
	for _, n := range []int{1, 9, 32, 300, maxText} {
		chain, in := roomy(text(32)), roomy(text(n))
		checkNewMemory(t, "Frame", func() []byte { b, _ := segment.Frame(chain, in); return b }, chain, in)
		chain, in = roomy(text(32)), roomy(text(n))
		checkNewMemory(t, "Frame's chain", func() []byte { _, b := segment.Frame(chain, in); return b }, chain, in)
	}
}

// P13.3: a frame and the chain after it share no memory.
func TestFrameAndChainAreApart(t *testing.T) {
	chain := text(32)
	for _, n := range []int{1, 9, 300} {
		frame, after := segment.Frame(chain, text(n))
		spoil(frame)
		checkOctets(t, "the chain beside a changed frame", after, digest(chain, text(n)))
		frame, after = segment.Frame(chain, text(n))
		spoil(after)
		checkOctets(t, "the frame beside a changed chain", frame, frameOf(chain, text(n)))
	}
}

// lists are the octets of what was parsed.
func lists(p api.Parsed) [][]byte {
	return append(slices.Clone(p.Texts), p.Chain)
}

// sameLists tells whether octets are equal, list by list.
func sameLists(a, b [][]byte) bool {
	return slices.EqualFunc(a, b, bytes.Equal)
}

// checkParsingIsNewMemory parses twice, changes the first result and then the
// arguments, and sees what else changes.
func checkParsingIsNewMemory(t *testing.T, b, chain []byte) {
	t.Helper()
	heldOctets, heldChain := bytes.Clone(whole(b)), bytes.Clone(whole(chain))
	parse := func() api.Parsed {
		p, _ := segment.Parse(b, 2, 5, chain)
		return p
	}
	p, _ := parsed(bytes.Clone(b), 2, 5, chain)
	want := lists(p)
	first, second := parse(), parse()
	for i, list := range lists(first) {
		spoil(list)
		_ = append(list, 1, 2, 3)
		if !sameLists(lists(first)[i+1:], want[i+1:]) {
			t.Errorf("list %d shares memory with another", i)
		}
	}
	clear(first.Texts[:cap(first.Texts)])
	if !bytes.Equal(whole(b), heldOctets) || !bytes.Equal(whole(chain), heldChain) {
		t.Error("a changed result changed an argument")
	}
	if !sameLists(lists(second), want) || !sameLists(lists(parse()), want) {
		t.Error("a changed result changed another one")
	}
	spoil(b)
	spoil(chain)
	if !sameLists(lists(second), want) {
		t.Error("a changed argument changed the result")
	}
}

// P13.3: what Parse returns is new memory, each part of it, also if there are
// no frames.
func TestParsingIsNewMemory(t *testing.T) {
	for _, texts := range ends() {
		frames, after := framesOf(text(32), texts...)
		for _, foot := range [][]byte{nil, footOf(uint64(5+len(texts)), after)} {
			b := laid(4, headOf(2, 5, text(32)), frames, foot)
			checkParsingIsNewMemory(t, roomy(b), roomy(text(32)))
			checkParsingIsNewMemory(t, b, text(32))
		}
	}
}

// P13.3: arguments and the octets behind them stay as they were, whether there
// is a result or not.
func TestArgumentsAreNotChanged(t *testing.T) {
	plain := text(32)
	frames, after := framesOf(plain, text(5), text(70))
	segments := [][]byte{
		nil,
		text(100),
		laid(2, headOf(2, 5, plain)),
		laid(3, headOf(2, 5, plain), frames),
		laid(4, headOf(2, 5, plain), frames, footOf(7, after)),
		laid(4, headOf(2, 5, plain), changed(frames, 70, 1)),
		laid(2, headOf(2, 6, plain)),
	}
	for _, n := range []int{0, 31, 32, 33} {
		for _, b := range segments {
			chain, b := roomy(text(n)), roomy(b)
			heldChain, held := bytes.Clone(whole(chain)), bytes.Clone(whole(b))
			for _, number := range []int{-1, 2, maxNumber + 1} {
				for _, count := range []int{-1, 5} {
					segment.Head(number, count, chain)
					segment.Foot(count, chain)
					segment.Parse(b, number, count, chain)
				}
			}
			segment.Frame(chain, b)
			segment.Frame(chain, chain)
			segment.Frame(chain, chain[:0])
			if !bytes.Equal(whole(chain), heldChain) || !bytes.Equal(whole(b), held) {
				t.Errorf("a chain of %d octets, %d octets: an argument was changed", n, len(b))
			}
		}
	}
}

// Rule 7: a call's result doesn't depend on the calls before it.
func TestCallsAreApart(t *testing.T) {
	chain := text(32)
	b := laid(3, headOf(2, 5, chain), frameOf(chain, text(9)))
	want := api.Parsed{Texts: [][]byte{text(9)}, Chain: digest(chain, text(9)), Used: 177}
	for range 3 {
		checkFrame(t, "again", chain, text(9))
		checkNoFrame(t, "again", chain, nil)
		checkOctets(t, "again", segment.Head(2, 5, chain), headOf(2, 5, chain))
		checkNothing(t, "again", segment.Head(-1, 5, chain))
		checkOctets(t, "again", segment.Foot(5, chain), footOf(5, chain))
		checkNothing(t, "again", segment.Foot(-1, chain))
		checkParsed(t, "again", b, 2, 5, chain, want)
		checkNone(t, "again", b, 3, 5, chain)
		if !segment.Fits(256, 128, 40) || segment.Fits(256, 128, 41) {
			t.Error("again: Fits")
		}
	}
}

// P13.2: any octets behind a header, and any octets at all.
func FuzzParse(f *testing.F) {
	chain := text(32)
	frames, after := framesOf(chain, text(5), text(3))
	f.Add(2, 5, join(frames, footOf(7, after)))
	f.Add(0, math.MaxInt, join(frames, footOf(1<<63+1, after)))
	f.Add(-1, 0, []byte{})
	f.Add(maxNumber, -1, bytes.Repeat([]byte{255}, 48))
	f.Fuzz(func(t *testing.T, number, count int, b []byte) {
		checkAny(t, "behind a header", laid(2, headOf(number, uint64(count), chain), b), number, count, chain)
		checkAny(t, "as it is", b, number, count, chain)
	})
}

// P13.1 and P13.2: any texts, written and parsed.
func FuzzWrite(f *testing.F) {
	f.Add(2, 5, text(32), []byte("hello"), []byte("you"))
	f.Add(-1, 0, text(31), []byte{}, []byte{1})
	f.Add(0, math.MaxInt, make([]byte, 32), []byte{255}, []byte{})
	f.Fuzz(func(t *testing.T, number, count int, chain, one, two []byte) {
		if len(chain) != 32 || count < 0 {
			checkNothing(t, "Head", segment.Head(number, count, chain))
			checkNothing(t, "Foot", segment.Foot(count, chain))
			return
		}
		checkOctets(t, "Foot", segment.Foot(count, chain), footOf(uint64(count), chain))
		if number < 0 || number > maxNumber {
			checkNothing(t, "Head", segment.Head(number, count, chain))
			return
		}
		checkOctets(t, "Head", segment.Head(number, count, chain), headOf(number, uint64(count), chain))
		for _, b := range [][]byte{one, two} {
			if len(b) == 0 || len(b) > maxText {
				checkNoFrame(t, "Frame", chain, b)
				return
			}
			checkFrame(t, "Frame", chain, b)
		}
		frames, after := framesOf(chain, one, two)
		checkParsed(t, "as it was written", laid(2, headOf(number, uint64(count), chain), frames), number, count, chain,
			api.Parsed{Texts: [][]byte{one, two}, Chain: after, Used: 128 + len(frames)})
	})
}
