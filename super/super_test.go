package super_test

import (
	"bytes"
	"encoding/binary"
	"encoding/hex"
	"errors"
	"hash/crc32"
	"math"
	"math/rand"
	"slices"
	"testing"

	"engrosser/api"
	"engrosser/disk"
	"engrosser/fault"
	"engrosser/super"
)

// What the document has for the limits, and for a sector.
const (
	maxTime  = 1 << 40
	maxSlots = 64
	maxParts = 256
	maxSize  = 512
	sector   = 128
)

// field is one of a superblock's, with the ends of its range.
type field struct {
	name      string
	low, high int
	of        func(*api.Super) *int
}

// fields are all of a superblock's, by the chapter's Terms.
func fields() []field {
	return []field{
		{"Gen", 1, maxTime, func(s *api.Super) *int { return &s.Gen }},
		{"Boot", 0, maxTime, func(s *api.Super) *int { return &s.Boot }},
		{"Slots", 1, maxSlots, func(s *api.Super) *int { return &s.Slots }},
		{"Segments", 1, maxParts, func(s *api.Super) *int { return &s.Segments }},
		{"Size", 2, maxSize, func(s *api.Super) *int { return &s.Size }},
	}
}

// with is a superblock with another number in a field.
func with(s api.Super, f field, n int) api.Super {
	*f.of(&s) = n
	return s
}

// sample is a valid superblock of a Gen. Those of different ones differ.
func sample(gen int) api.Super {
	return api.Super{Gen: gen, Boot: gen % 1000, Slots: 1 + gen%maxSlots, Segments: 1 + gen%maxParts, Size: 2 + gen%(maxSize-1)}
}

// samples are superblocks whose fields are at the ends of their ranges, in all
// combinations, and some others.
func samples() []api.Super {
	out := []api.Super{{}}
	for _, f := range fields() {
		var next []api.Super
		for _, s := range out {
			next = append(next, with(s, f, f.low), with(s, f, f.high))
		}
		out = next
	}
	for _, gen := range []int{1, 2, 3, 4, 5, 127, 128, 255, 256, 65535, 65536, 1<<32 - 1, 1 << 32, 1<<32 + 1, maxTime - 1, maxTime} {
		out = append(out, sample(gen))
	}
	return append(out, api.Super{Gen: 4, Boot: 7, Slots: 2, Segments: 3, Size: 4})
}

// wrongNumbers are those that a field can't have.
func wrongNumbers(f field) []int {
	out := []int{
		f.low - 1, f.high + 1, -1, -2, -f.high, -f.high - 1, math.MinInt, math.MinInt + 1, math.MinInt + 2, math.MaxInt, math.MaxInt - 1,
		1<<40 + 1, 1<<40 + 2, 1<<48 + 2, 1<<62 + 2, 2 * (maxTime + 1), -1 << 40, 2 - 1<<40,
	}
	if f.high < 1<<32 {
		out = append(out, 2*f.high, f.high+2, 1<<31, 1<<31+2, 1<<32-1, 1<<32, 1<<32+2, 1<<32+f.high, 1<<40, 2-1<<32)
	}
	return out
}

// valid tells whether a superblock is, by the chapter's Terms.
func valid(s api.Super) bool {
	for _, f := range fields() {
		if n := *f.of(&s); n < f.low || n > f.high {
			return false
		}
	}
	return true
}

// checked is b and its checksum, by Go's own library.
func checked(b []byte) []byte {
	return binary.BigEndian.AppendUint32(bytes.Clone(b), crc32.ChecksumIEEE(b))
}

// padded is b and zeros, a sector in all.
func padded(b []byte) []byte {
	return append(bytes.Clone(b), make([]byte, sector-len(b))...)
}

// body is what of an encoding is ahead of the checksum, by the chapter's Terms.
// Of a superblock that isn't valid, it has as many bits as there's space for.
func body(mark string, s api.Super) []byte {
	b := []byte(mark)
	b = binary.BigEndian.AppendUint64(b, uint64(s.Gen))
	b = binary.BigEndian.AppendUint64(b, uint64(s.Boot))
	b = binary.BigEndian.AppendUint32(b, uint32(s.Slots))
	b = binary.BigEndian.AppendUint32(b, uint32(s.Segments))
	return binary.BigEndian.AppendUint32(b, uint32(s.Size))
}

// encoded is a superblock's encoding, valid or not.
func encoded(s api.Super) []byte {
	return padded(checked(body("engs", s)))
}

// fits tells whether an encoding has space for all bits of a superblock.
func fits(s api.Super) bool {
	return max(uint64(s.Slots), uint64(s.Segments), uint64(s.Size)) <= math.MaxUint32
}

// damaged is a superblock's encoding with a byte changed.
func damaged(s api.Super) []byte {
	return changed(encoded(s), 11, 2)
}

// parsed is the superblock that b encodes, field by field of the chapter's Terms.
func parsed(b []byte, place int) (api.Super, bool) {
	be := binary.BigEndian
	if len(b) != sector || string(b[:4]) != "engs" || be.Uint32(b[32:]) != crc32.ChecksumIEEE(b[:32]) || !bytes.Equal(b[36:], make([]byte, 92)) {
		return api.Super{}, false
	}
	s := api.Super{Gen: int(be.Uint64(b[4:])), Boot: int(be.Uint64(b[12:])), Slots: int(be.Uint32(b[20:])), Segments: int(be.Uint32(b[24:])), Size: int(be.Uint32(b[28:]))}
	if !valid(s) || place != 0 && place != 1 || s.Gen%2 != place {
		return api.Super{}, false
	}
	return s, true
}

// newest is the newest superblock of two sectors, by the chapter's Terms.
func newest(b []byte) (api.Super, bool) {
	if len(b) < 2*sector {
		return api.Super{}, false
	}
	even, first := parsed(b[:sector], 0)
	odd, second := parsed(b[sector:2*sector], 1)
	if first && (!second || even.Gen > odd.Gen) {
		return even, true
	}
	return odd, second
}

// noise is n octets that differ from their neighbours, none of them zero.
func noise(n int) []byte {
	b := make([]byte, n)
	for i := range b {
		b[i] = byte(1 + (i*7+i>>8)%255)
	}
	return b
}

// changed is a copy of b with another octet at a place.
func changed(b []byte, at int, by byte) []byte {
	b = bytes.Clone(b)
	b[at] ^= by
	return b
}

// join is all of the parts, in new memory.
func join(parts ...[]byte) []byte {
	return bytes.Join(parts, nil)
}

// roomy is a copy of b with something behind it.
func roomy(b []byte) []byte {
	return append(bytes.Clone(b), bytes.Repeat([]byte{0xee}, 300)...)[:len(b)]
}

// whole is b with what is behind it.
func whole(b []byte) []byte {
	return b[:cap(b)]
}

// spoil changes each octet of b and of its spare capacity.
func spoil(b []byte) {
	b = whole(b)
	for i := range b {
		b[i] ^= 255
	}
}

// none are no octets, in each way there is of it.
func none() [][]byte {
	return [][]byte{nil, {}, make([]byte, 0, 300), roomy(nil), encoded(sample(4))[:0]}
}

// checkRight holds everything that is told of a valid superblock.
func checkRight(t *testing.T, s api.Super) {
	t.Helper()
	if !super.Right(s) {
		t.Errorf("%v isn't right", s)
	}
	b, ok := super.Octets(s)
	if want := encoded(s); !ok || !bytes.Equal(b, want) {
		t.Errorf("%v: %x, %v, want %x", s, b, ok, want)
	}
	if n, want := super.Sectors(s), 2+2*s.Slots+s.Segments*s.Size; n != want {
		t.Errorf("%v: %d sectors, want %d", s, n, want)
	}
	checkRead(t, b, s.Gen%2, s)
}

// checkWrong holds everything that is told of a superblock that isn't valid.
func checkWrong(t *testing.T, s api.Super) {
	t.Helper()
	if super.Right(s) {
		t.Errorf("%v is right", s)
	}
	if b, ok := super.Octets(s); ok || len(b) != 0 {
		t.Errorf("%v: %x, %v", s, b, ok)
	}
	if n := super.Sectors(s); n != 0 {
		t.Errorf("%v: %d sectors", s, n)
	}
	if fits(s) {
		checkNone(t, encoded(s), 0)
		checkNone(t, encoded(s), 1)
	}
}

// checkRead reads what is a superblock.
func checkRead(t *testing.T, b []byte, place int, want api.Super) {
	t.Helper()
	if s, ok := super.Read(b, place); !ok || s != want {
		t.Errorf("%x at %d: %v, %v, want %v", b, place, s, ok, want)
	}
}

// checkNone reads what is no superblock.
func checkNone(t *testing.T, b []byte, place int) {
	t.Helper()
	if s, ok := super.Read(b, place); ok || s != (api.Super{}) {
		t.Errorf("%d octets, %x at %d: %v, %v", len(b), b[:min(len(b), sector)], place, s, ok)
	}
}

// The limits are the document's.
func TestLimits(t *testing.T) {
	if api.MaxTime != maxTime || api.MaxSlots != maxSlots || api.MaxParts != maxParts || api.MaxSize != maxSize || api.Sector != sector {
		t.Error("a limit isn't the document's")
	}
}

// P14.1: the chapter's example.
func TestExample(t *testing.T) {
	if n := super.Sectors(api.Super{Gen: 1, Slots: 2, Segments: 3, Size: 4}); n != 2+4+12 {
		t.Errorf("%d sectors", n)
	}
}

// P14.1: encodings that were made by another program (Python).
func TestKnown(t *testing.T) {
	tests := []struct {
		s       api.Super
		digits  string
		sectors int
	}{
		{api.Super{Gen: 1, Boot: 0, Slots: 1, Segments: 1, Size: 2}, "656e6773000000000000000100000000000000000000000100000001000000021b130057", 6},
		{api.Super{Gen: maxTime, Boot: maxTime, Slots: 64, Segments: 256, Size: 512}, "656e6773000001000000000000000100000000000000004000000100000002006f6b7d40", 131202},
		{api.Super{Gen: 4, Boot: 7, Slots: 2, Segments: 3, Size: 4}, "656e677300000000000000040000000000000007000000020000000300000004416d4bba", 18},
		{api.Super{Gen: 5, Boot: maxTime - 1, Slots: 63, Segments: 255, Size: 511}, "656e67730000000000000005000000ffffffffff0000003f000000ff000001ffc9f4cc94", 130433},
		{api.Super{Gen: 0x0102030405, Boot: 0x060708090a, Slots: 11, Segments: 12, Size: 269}, "656e67730000000102030405000000060708090a0000000b0000000c0000010dba498ab3", 3252},
	}
	for _, x := range tests {
		want, err := hex.DecodeString(x.digits)
		if err != nil {
			t.Fatal(err)
		}
		b, ok := super.Octets(x.s)
		if !ok || len(b) != 128 || !bytes.Equal(b, padded(want)) {
			t.Errorf("%v: %x, %v", x.s, b, ok)
		}
		if n := super.Sectors(x.s); n != x.sectors {
			t.Errorf("%v: %d sectors", x.s, n)
		}
		checkRead(t, padded(want), x.s.Gen%2, x.s)
	}
}

// P14.1: superblocks with fields at the ends of their ranges, in all combinations.
func TestRight(t *testing.T) {
	for _, s := range samples() {
		checkRight(t, s)
	}
}

// P14.1: each number that a field of few can have, alone.
func TestEachNumber(t *testing.T) {
	for _, f := range fields() {
		for n := f.low; n <= min(f.high, 1000); n++ {
			checkRight(t, with(sample(77), f, n))
			checkRight(t, with(sample(78), f, n))
		}
		for n := max(f.low, f.high-1000); n <= f.high; n++ {
			checkRight(t, with(sample(79), f, n))
		}
	}
}

// P14.1: superblocks with one field out of its range.
func TestWrong(t *testing.T) {
	for _, f := range fields() {
		for _, n := range wrongNumbers(f) {
			for _, s := range samples() {
				checkWrong(t, with(s, f, n))
			}
		}
	}
}

// P14.1: superblocks with several fields out of their ranges.
func TestSeveralWrong(t *testing.T) {
	all := fields()
	checkWrong(t, api.Super{})
	for i, f := range all {
		for _, g := range all[:i] {
			for _, n := range wrongNumbers(f) {
				for _, m := range wrongNumbers(g) {
					checkWrong(t, with(with(sample(6), f, n), g, m))
				}
			}
		}
	}
	for _, n := range []int{-1, -2, math.MinInt, math.MinInt + 1, math.MaxInt, math.MaxInt - 1, maxTime + 1, 1 << 62} {
		s := sample(7)
		for _, f := range all {
			s = with(s, f, n)
			checkWrong(t, s)
		}
	}
}

// anyNumber is one that is more often than not in a range.
func anyNumber(r *rand.Rand, f field) int {
	switch r.Intn(24) {
	case 0:
		return f.low - 1
	case 1:
		return f.high + 1
	case 2:
		return int(r.Uint64())
	case 3:
		return r.Intn(1 << (1 + r.Intn(62)))
	case 4, 5:
		return f.low
	case 6, 7:
		return f.high
	}
	return f.low + r.Intn(f.high-f.low+1)
}

// anySuper is a superblock that may be valid.
func anySuper(r *rand.Rand) api.Super {
	var s api.Super
	for _, f := range fields() {
		s = with(s, f, anyNumber(r, f))
	}
	return s
}

// P14.1: superblocks with any numbers.
func TestAnySupers(t *testing.T) {
	r := rand.New(rand.NewSource(1))
	rights := 0
	for range 20000 {
		s := anySuper(r)
		if valid(s) {
			checkRight(t, s)
			rights++
		} else {
			checkWrong(t, s)
		}
	}
	if rights < 4000 || rights > 16000 {
		t.Errorf("%d are valid", rights)
	}
}

// P14.1: a superblock is read at its own sector only.
func TestReadPlaces(t *testing.T) {
	for _, s := range samples() {
		b, _ := super.Octets(s)
		own := s.Gen % 2
		checkRead(t, b, own, s)
		for _, place := range []int{1 - own, own - 2, own + 2, -1, 2, 3, 4, -2, -3, s.Gen, s.Gen + 2, own + 1<<32, math.MinInt, math.MinInt + 1, math.MaxInt, math.MaxInt - 1} {
			if place != own {
				checkNone(t, b, place)
			}
		}
	}
}

// P14.1: what isn't a sector is no encoding, whatever it begins with.
func TestReadSizes(t *testing.T) {
	for _, s := range []api.Super{sample(4), sample(5)} {
		b := encoded(s)
		place := s.Gen % 2
		for _, empty := range none() {
			checkNone(t, empty, 0)
			checkNone(t, empty, 1)
		}
		for n := range sector {
			checkNone(t, b[:n], place)
			checkNone(t, b[:n:n], place)
		}
		for n := 1; n <= 3*sector; n++ {
			checkNone(t, append(bytes.Clone(b), make([]byte, n)...), place)
		}
		checkNone(t, append(bytes.Clone(b), b...), place)
		checkNone(t, append(make([]byte, 1), b...), place)
		checkNone(t, b[1:], place)
		checkNone(t, append(bytes.Clone(b), noise(1)...), place)
		checkRead(t, roomy(b), place, s)
		checkRead(t, append(bytes.Clone(b), noise(sector)...)[:sector], place, s)
	}
}

// P14.1: an encoding with any other octet at any place is none, in the padding,
// too.
func TestReadChanged(t *testing.T) {
	for _, s := range []api.Super{sample(4), sample(5), sample(maxTime)} {
		b := encoded(s)
		for at := range b {
			for by := 1; by < 256; by++ {
				c := changed(b, at, byte(by))
				checkNone(t, c, 0)
				checkNone(t, c, 1)
			}
		}
	}
}

// P14.1: an encoding with two changed octets is none.
func TestReadTwoChanged(t *testing.T) {
	s := sample(6)
	b := encoded(s)
	for at := range b {
		for other := range at {
			checkNone(t, changed(changed(b, at, 1), other, 128), 0)
			checkNone(t, changed(changed(b, at, 255), other, 255), 0)
		}
	}
}

// P14.1: a sector with a right checksum that doesn't begin with engs is none.
func TestReadMarks(t *testing.T) {
	s := sample(4)
	checkRead(t, padded(checked(body("engs", s))), 0, s)
	for _, mark := range []string{"engr", "engS", "ENGS", "sgne", "\x00\x00\x00\x00", "\xff\xff\xff\xff", "eng\x00", "engt", "fngs", "eogs", "enhs"} {
		checkNone(t, padded(checked(body(mark, s))), 0)
		checkNone(t, padded(checked(body(mark, s))), 1)
	}
	for _, mark := range []string{"", "eng", "engss", "engsengs"} {
		checkNone(t, padded(checked(body(mark, s))), 0)
	}
}

// P14.1: a sector whose fields, padding or checksum stand elsewhere is none.
func TestReadLayouts(t *testing.T) {
	s := sample(4)
	inner := body("engs", s)
	sum := checked(inner)[len(inner):]
	checkRead(t, padded(join(inner, sum)), 0, s)
	wrong := map[string][]byte{
		"no checksum":                        padded(inner),
		"zeros for a checksum":               padded(join(inner, make([]byte, 4))),
		"a checksum of the padding, too":     checked(padded(inner)[:sector-4]),
		"a checksum at the end":              join(inner, make([]byte, sector-len(inner)-4), sum),
		"a checksum without the mark":        padded(join(inner, checked(inner[4:])[len(inner)-4:])),
		"a checksum twice":                   padded(checked(checked(inner))),
		"a checksum the other way round":     padded(join(inner, []byte{sum[3], sum[2], sum[1], sum[0]})),
		"a checksum ahead":                   padded(join(sum, inner)),
		"a field less":                       padded(checked(inner[:len(inner)-4])),
		"a field more":                       padded(checked(join(inner, make([]byte, 4)))),
		"padding of spaces":                  append(checked(inner), bytes.Repeat([]byte{' '}, sector-36)...),
		"padding of ff":                      append(checked(inner), bytes.Repeat([]byte{255}, sector-36)...),
		"something at the end":               append(padded(checked(inner))[:sector-1], 1),
		"the encoding in the sector's end":   append(make([]byte, sector-36), checked(inner)...),
		"the encoding two times in a sector": padded(join(checked(inner), checked(inner))),
	}
	for what, b := range wrong {
		for place := range 2 {
			if u, ok := super.Read(b, place); ok || u != (api.Super{}) {
				t.Errorf("%s at %d: %v, %v", what, place, u, ok)
			}
		}
	}
}

// P14.1: the fields are read from where they are written, none as another.
func TestReadFields(t *testing.T) {
	for _, f := range fields() {
		for bit := 0; 1<<bit <= f.high; bit++ {
			s := with(sample(2), f, max(f.low, 1<<bit))
			checkRead(t, encoded(s), s.Gen%2, s)
		}
	}
}

// P14.1: a sector with a right checksum and a superblock that isn't valid, in
// each way that fits into it.
func TestReadUnfit(t *testing.T) {
	for _, f := range fields() {
		for _, n := range wrongNumbers(f) {
			for _, s := range []api.Super{sample(4), sample(5), sample(maxTime - 1)} {
				u := with(s, f, n)
				if !fits(u) {
					continue
				}
				for _, place := range []int{0, 1, -1, u.Gen % 2, u.Boot % 2} {
					checkNone(t, encoded(u), place)
				}
			}
		}
	}
}

// P14.1: a number of eight octets whose first bit is set is negative, and so not
// that of a superblock, even if its other bits are.
func TestReadFirstBit(t *testing.T) {
	for _, s := range samples() {
		for _, u := range []api.Super{s, sample(s.Gen)} {
			gen, boot := u, u
			gen.Gen += math.MinInt
			boot.Boot += math.MinInt
			for place := -1; place <= 2; place++ {
				checkNone(t, encoded(gen), place)
				checkNone(t, encoded(boot), place)
			}
		}
	}
	for at := 4; at < 20; at += 8 { // the other bits of a number that there's no space for
		for by := 1; by < 256; by++ {
			b := changed(encoded(sample(4)), at, byte(by))
			checkNone(t, padded(checked(b[:32])), 0)
			checkNone(t, padded(checked(b[:32])), 1)
		}
	}
}

// P14.1: numbers of four octets whose first bit is set are no negative ones.
func TestReadFirstBitOfFour(t *testing.T) {
	for at := 20; at < 32; at += 4 {
		for _, by := range []byte{1, 128, 255} {
			b := changed(encoded(sample(4)), at, by)
			checkNone(t, padded(checked(b[:32])), 0)
		}
	}
}

// P14.1: sectors with a right checksum and any fields.
func TestReadAny(t *testing.T) {
	r := rand.New(rand.NewSource(2))
	reads := 0
	for range 20000 {
		b := encoded(anySuper(r))
		if r.Intn(4) == 0 {
			b[r.Intn(len(b))] ^= byte(1 << r.Intn(8))
		}
		if r.Intn(8) == 0 {
			b = padded(checked(b[:32]))
		}
		place := r.Intn(4) - 1
		want, ok := parsed(b, place)
		if ok {
			checkRead(t, b, place, want)
			reads++
		} else {
			checkNone(t, b, place)
		}
	}
	if reads < 1000 {
		t.Errorf("%d are superblocks", reads)
	}
}

// checkNewest asks for the newest superblock, of which there is one.
func checkNewest(t *testing.T, what string, b []byte, want api.Super) {
	t.Helper()
	if s, ok := super.Newest(b); !ok || s != want {
		t.Errorf("%s, %d octets: %v, %v, want %v", what, len(b), s, ok, want)
	}
}

// checkNoNewest asks for the newest superblock, where there is none.
func checkNoNewest(t *testing.T, what string, b []byte) {
	t.Helper()
	if s, ok := super.Newest(b); ok || s != (api.Super{}) {
		t.Errorf("%s, %d octets: %v, %v", what, len(b), s, ok)
	}
}

// P14.1: the newest superblock is that with the greater Gen.
func TestNewest(t *testing.T) {
	zeros := make([]byte, sector)
	even, odd := encoded(sample(4)), encoded(sample(5))
	checkNewest(t, "sector 0 alone", join(even, zeros), sample(4))
	checkNewest(t, "sector 1 alone", join(zeros, odd), sample(5))
	checkNewest(t, "sector 0 beside noise", join(even, noise(sector)), sample(4))
	checkNewest(t, "sector 1 beside noise", join(noise(sector), odd), sample(5))
	checkNewest(t, "both, 1 newer", join(even, odd), sample(5))
	checkNewest(t, "both, 0 newer", join(encoded(sample(6)), odd), sample(6))
	checkNewest(t, "both, 0 newer by far", join(encoded(sample(maxTime)), encoded(sample(1))), sample(maxTime))
	checkNewest(t, "both, 1 newer by far", join(encoded(sample(2)), encoded(sample(maxTime-1))), sample(maxTime-1))
	checkNewest(t, "the least one", join(zeros, encoded(sample(1))), sample(1))
	checkNewest(t, "the least one of sector 0", join(encoded(sample(2)), zeros), sample(2))
	checkNewest(t, "the greatest one", join(encoded(sample(maxTime)), zeros), sample(maxTime))
}

// P14.1: which one is newest hangs on Gen alone, not on what else is greater.
func TestNewestByGen(t *testing.T) {
	small, great := api.Super{Gen: 1, Slots: 1, Segments: 1, Size: 2}, api.Super{Gen: 1, Boot: maxTime, Slots: maxSlots, Segments: maxParts, Size: maxSize}
	for _, gens := range [][2]int{{2, 1}, {2, 3}, {10, 9}, {10, 11}, {1 << 32, 1<<32 - 1}, {1 << 32, 1<<32 + 1}, {256, 65537}, {maxTime, maxTime - 1}} {
		for _, pair := range [][2]api.Super{{small, great}, {great, small}, {small, small}, {great, great}} {
			even, odd := pair[0], pair[1]
			even.Gen, odd.Gen = gens[0], gens[1]
			want := even
			if odd.Gen > even.Gen {
				want = odd
			}
			checkNewest(t, "two", join(encoded(even), encoded(odd)), want)
		}
	}
}

// P14.1: a superblock in the wrong sector, or a damaged one, is none, also if it
// would be the newer one.
func TestNewestOfWrong(t *testing.T) {
	zeros := make([]byte, sector)
	checkNoNewest(t, "zeros", join(zeros, zeros))
	checkNoNewest(t, "noise", noise(2*sector))
	checkNoNewest(t, "an even one in sector 1", join(zeros, encoded(sample(4))))
	checkNoNewest(t, "an odd one in sector 0", join(encoded(sample(5)), zeros))
	checkNoNewest(t, "both exchanged", join(encoded(sample(5)), encoded(sample(4))))
	checkNewest(t, "an even one in both", join(encoded(sample(4)), encoded(sample(4))), sample(4))
	checkNewest(t, "an odd one in both", join(encoded(sample(5)), encoded(sample(5))), sample(5))
	checkNewest(t, "a newer even one in sector 1", join(encoded(sample(4)), encoded(sample(6))), sample(4))
	checkNewest(t, "a newer odd one in sector 0", join(encoded(sample(7)), encoded(sample(5))), sample(5))
	checkNewest(t, "a damaged newer one in sector 1", join(encoded(sample(4)), damaged(sample(5))), sample(4))
	checkNewest(t, "a damaged newer one in sector 0", join(damaged(sample(6)), encoded(sample(5))), sample(5))
	checkNewest(t, "a damaged older one in sector 0", join(damaged(sample(4)), encoded(sample(5))), sample(5))
	checkNewest(t, "a damaged older one in sector 1", join(encoded(sample(6)), damaged(sample(5))), sample(6))
	checkNoNewest(t, "two damaged ones", join(damaged(sample(4)), damaged(sample(5))))
	for at := range sector {
		checkNewest(t, "a newer one with a changed octet", join(encoded(sample(4)), changed(encoded(sample(5)), at, 64)), sample(4))
		checkNewest(t, "a newer one with a changed octet", join(changed(encoded(sample(6)), at, 64), encoded(sample(5))), sample(5))
	}
}

// P14.1: a superblock that isn't valid is none, also if its checksum is right
// and its Gen the greater one.
func TestNewestOfUnfit(t *testing.T) {
	for _, f := range fields() {
		for _, n := range []int{f.low - 1, f.high + 1} {
			even, odd := with(sample(6), f, n), with(sample(7), f, n)
			checkNewest(t, f.name, join(encoded(even), encoded(sample(5))), sample(5))
			checkNewest(t, f.name, join(encoded(sample(4)), encoded(odd)), sample(4))
			checkNoNewest(t, f.name, join(encoded(even), encoded(odd)))
			checkNoNewest(t, f.name, join(encoded(odd), encoded(even)))
		}
	}
	for _, gen := range []int{0, maxTime + 2, math.MaxInt - 1, -2, math.MinInt, math.MinInt + 8} {
		even, odd := with(sample(6), fields()[0], gen), with(sample(7), fields()[0], gen+1)
		checkNewest(t, "an odd one beside one of a wrong Gen", join(encoded(even), encoded(sample(3))), sample(3))
		if gen != 0 {
			checkNewest(t, "an even one beside one of a wrong Gen", join(encoded(sample(2)), encoded(odd)), sample(2))
		}
	}
}

// P14.1: fewer octets than two sectors have no newest one; of more, only the
// first two sectors count.
func TestNewestSizes(t *testing.T) {
	b := join(encoded(sample(4)), encoded(sample(5)))
	for _, empty := range none() {
		checkNoNewest(t, "no octets", empty)
	}
	for n := range 2 * sector {
		checkNoNewest(t, "few octets", b[:n])
		checkNoNewest(t, "few octets", b[:n:n])
	}
	checkNewest(t, "two sectors", b[:256], sample(5))
	checkNewest(t, "two sectors", roomy(b), sample(5))
	for n := range 3 * sector {
		checkNewest(t, "more octets", append(bytes.Clone(b), noise(n)...), sample(5))
		checkNewest(t, "more octets", append(bytes.Clone(b), make([]byte, n)...), sample(5))
	}
	checkNewest(t, "newer ones behind", join(b, encoded(sample(6)), encoded(sample(7))), sample(5))
	checkNewest(t, "newer ones behind the one of sector 0", join(b[:sector], noise(sector), encoded(sample(6)), encoded(sample(7))), sample(4))
	checkNoNewest(t, "two sectors too late", join(make([]byte, 2*sector), b))
	checkNoNewest(t, "a sector too late", join(make([]byte, sector), b))
	checkNoNewest(t, "a byte too late", join(make([]byte, 1), b))
	checkNewest(t, "a disk's octets", join(b, noise((api.MaxDisk-2)*sector)), sample(5))
}

// pieces are sectors, with and without superblocks.
func pieces() [][]byte {
	out := [][]byte{make([]byte, sector), noise(sector), damaged(sample(4)), damaged(sample(7)), encoded(api.Super{})}
	for _, gen := range []int{1, 2, 3, 4, 5, 6, 255, 256, 257, 1<<32 - 1, 1 << 32, 1<<32 + 1, maxTime - 1, maxTime, maxTime + 1, maxTime + 2, 0, -1, math.MinInt, math.MaxInt} {
		s := sample(4)
		s.Gen = gen
		out = append(out, encoded(s))
	}
	return out
}

// P14.1: any two sectors.
func TestNewestOfAny(t *testing.T) {
	for _, first := range pieces() {
		for _, second := range pieces() {
			b := join(first, second)
			if want, ok := newest(b); ok {
				checkNewest(t, "any", b, want)
			} else {
				checkNoNewest(t, "any", b)
			}
		}
	}
}

// loaded is a disk with some durable contents.
func loaded(t *testing.T, image []byte) *disk.Disk {
	t.Helper()
	d, x := disk.Load(image)
	if x != api.OK {
		t.Fatalf("Load of %d octets: %v", len(image), x)
	}
	return d
}

// filled is a disk's image that begins with two sectors, with noise behind them.
func filled(first, second []byte, n int) []byte {
	return join(first, second, noise((n-2)*sector))
}

// put writes, which has to succeed.
func put(t *testing.T, d *disk.Disk, at int, b []byte) {
	t.Helper()
	if x := d.Write(at, b); x != api.OK {
		t.Fatalf("Write(%d) = %v", at, x)
	}
}

// pend is a pending write of one sector.
type pend struct {
	at int
	b  []byte
}

// checkDisk holds what is on a disk, and what is waiting.
func checkDisk(t *testing.T, what string, d *disk.Disk, durable []byte, pending ...pend) {
	t.Helper()
	image := bytes.Clone(durable)
	want := slices.Collect(slices.Chunk(durable, sector))
	for _, p := range pending {
		copy(image[p.at*sector:], p.b)
		want = append(want, p.b)
	}
	if d.Waiting() != len(pending) {
		t.Errorf("%s: %d writes are waiting, not %d", what, d.Waiting(), len(pending))
	}
	if !bytes.Equal(d.Image(), image) || !slices.EqualFunc(d.All(), want, bytes.Equal) {
		t.Errorf("%s: the disk has something else", what)
	}
}

// left is for how many calls the power stays on, up to 100. It uses them up.
func left(d *disk.Disk) int {
	for n := range 100 {
		if _, x := d.Read(0, 0); x != api.OK {
			return n
		}
	}
	return 100
}

// checkFault holds an error against the fault that it has to be.
func checkFault(t *testing.T, what string, err error, at int, x api.Errno) {
	t.Helper()
	var f *fault.Fault
	if !errors.As(err, &f) {
		t.Errorf("%s: %v is no fault", what, err)
		return
	}
	if f.Op != "super" || f.At != at || f.Err != x {
		t.Errorf("%s: %v, want super %d: %v", what, err, at, x)
	}
	if !errors.Is(err, x) || fault.Code(err) != x || !slices.Equal(fault.Ops(err), []string{"super"}) {
		t.Errorf("%s: %v doesn't wrap %v alone", what, err, x)
	}
	if place, ok := fault.Place(err, "super"); !ok || place != at {
		t.Errorf("%s: the place of %v is %d, %v", what, err, place, ok)
	}
	if want := fault.Wrap("super", at, x); err.Error() != want.Error() {
		t.Errorf("%s: %q, want %q", what, err, want)
	}
}

// checkFound finds what has to be there.
func checkFound(t *testing.T, what string, d *disk.Disk, want api.Super) {
	t.Helper()
	if s, err := super.Find(d); err != nil || s != want {
		t.Errorf("%s: %v, %v, want %v", what, s, err, want)
	}
}

// checkNotFound finds nothing, for a reason.
func checkNotFound(t *testing.T, what string, d *disk.Disk, want api.Errno) {
	t.Helper()
	s, err := super.Find(d)
	if s != (api.Super{}) {
		t.Errorf("%s: %v beside an error", what, s)
	}
	checkFault(t, what, err, 0, want)
}

// store is a Store that has to succeed.
func store(t *testing.T, what string, d *disk.Disk, s api.Super) {
	t.Helper()
	if err := super.Store(d, s); err != nil {
		t.Errorf("%s: Store of %v: %v", what, s, err)
	}
}

// P14.2: Find returns the newest superblock of a disk's first two sectors.
func TestFind(t *testing.T) {
	for _, n := range []int{2, 3, 18, 1000} {
		image := filled(encoded(sample(4)), encoded(sample(5)), n)
		d := loaded(t, image)
		checkFound(t, "both", d, sample(5))
		checkFound(t, "both, again", d, sample(5))
		checkDisk(t, "both", d, image)
		checkFound(t, "sector 0 newer", loaded(t, filled(encoded(sample(6)), encoded(sample(5)), n)), sample(6))
		checkFound(t, "sector 0 alone", loaded(t, filled(encoded(sample(6)), make([]byte, sector), n)), sample(6))
		checkFound(t, "sector 1 alone", loaded(t, filled(make([]byte, sector), encoded(sample(7)), n)), sample(7))
		checkFound(t, "a damaged newer one", loaded(t, filled(encoded(sample(4)), damaged(sample(5)), n)), sample(4))
	}
	checkFound(t, "newer ones behind", loaded(t, join(encoded(sample(4)), encoded(sample(5)), encoded(sample(6)), encoded(sample(7)))), sample(5))
}

// P14.2: Find doesn't mind whether the superblock's disk is the one that it is on.
func TestFindOtherDisk(t *testing.T) {
	for _, s := range samples() {
		image := make([]byte, 2*sector)
		copy(image[s.Gen%2*sector:], encoded(s))
		checkFound(t, "two sectors", loaded(t, image), s)
		checkFound(t, "the largest disk", loaded(t, append(image, make([]byte, (api.MaxDisk-2)*sector)...)), s)
	}
}

// P14.2: Find sees what is waiting.
func TestFindPending(t *testing.T) {
	d := loaded(t, filled(encoded(sample(4)), encoded(sample(5)), 4))
	put(t, d, 0, encoded(sample(6)))
	checkFound(t, "a newer one that is waiting", d, sample(6))
	put(t, d, 0, noise(sector))
	checkFound(t, "noise that is waiting", d, sample(5))
	put(t, d, 1, noise(sector))
	checkNotFound(t, "noise that is waiting", d, api.ErrNone)
	d.Crash()
	checkFound(t, "all lost", d, sample(5))
}

// P14.2: there is no superblock: ErrNone at 0.
func TestFindNone(t *testing.T) {
	zeros := make([]byte, sector)
	for _, n := range []int{2, 3, 18} {
		images := map[string][]byte{
			"an empty disk":        make([]byte, n*sector),
			"noise":                noise(n * sector),
			"the wrong sectors":    filled(encoded(sample(5)), encoded(sample(4)), n),
			"two damaged ones":     filled(damaged(sample(4)), damaged(sample(5)), n),
			"those of Gen 0 and 1": filled(encoded(with(sample(4), fields()[0], 0)), encoded(with(sample(1), fields()[4], 1)), n),
			"superblocks behind":   join(zeros, zeros, encoded(sample(4)), encoded(sample(5)), noise(n*sector)),
		}
		for what, image := range images {
			d := loaded(t, image)
			checkNotFound(t, what, d, api.ErrNone)
			checkNotFound(t, what+", again", d, api.ErrNone)
			checkDisk(t, what, d, image)
		}
	}
}

// P14.2: Find of nil, of a disk of one sector, and with the power off.
func TestFindErrors(t *testing.T) {
	checkNotFound(t, "nil", nil, api.ErrNil)
	for _, image := range [][]byte{make([]byte, sector), encoded(sample(4)), encoded(sample(5))} {
		d := loaded(t, image)
		checkNotFound(t, "one sector", d, api.ErrRange)
		d.Limit(0)
		checkNotFound(t, "one sector with the power off", d, api.ErrRange)
		checkDisk(t, "one sector", d, image)
	}
	for _, image := range [][]byte{make([]byte, 3*sector), filled(encoded(sample(4)), encoded(sample(5)), 3)} {
		d := loaded(t, image)
		d.Limit(0)
		checkNotFound(t, "the power off", d, api.ErrPower)
		checkNotFound(t, "the power off, again", d, api.ErrPower)
		checkDisk(t, "the power off", d, image)
	}
	d := loaded(t, filled(encoded(sample(4)), encoded(sample(5)), 3))
	d.Limit(0)
	checkNotFound(t, "the power off", d, api.ErrPower)
	d.Crash()
	checkFound(t, "the power on again", d, sample(5))
}

// P14.2: Find reads once, whatever it finds, and it writes nothing.
func TestFindCalls(t *testing.T) {
	for _, image := range [][]byte{make([]byte, 2*sector), filled(encoded(sample(4)), encoded(sample(5)), 3), filled(noise(sector), encoded(sample(5)), 3)} {
		_, found := newest(image)
		for limit := 1; limit < 5; limit++ {
			d := loaded(t, image)
			d.Limit(limit)
			if _, err := super.Find(d); found != (err == nil) {
				t.Errorf("with a limit of %d: %v", limit, err)
			}
			if n := left(d); n != limit-1 {
				t.Errorf("of %d calls %d are left", limit, n)
			}
			checkDisk(t, "Find", d, image)
		}
	}
	d := loaded(t, make([]byte, sector))
	d.Limit(3)
	checkNotFound(t, "one sector", d, api.ErrRange)
	checkNotFound(t, "nil", nil, api.ErrNil)
	if n := left(d); n != 3 {
		t.Errorf("of 3 calls %d are left", n)
	}
}

// P14.2: Store writes the encoding to its sector, that one alone, and flushes.
func TestStore(t *testing.T) {
	for _, n := range []int{2, 3, 18, 300} {
		for _, s := range samples() {
			image := noise(n * sector)
			d := loaded(t, image)
			store(t, "noise", d, s)
			copy(image[s.Gen%2*sector:], encoded(s))
			checkDisk(t, "noise", d, image)
			checkFound(t, "noise", d, s)
			d.Crash()
			checkDisk(t, "after a crash", d, image)
			checkFound(t, "after a crash", d, s)
		}
	}
}

// P14.2: Store makes durable what was waiting, too.
func TestStoreFlushes(t *testing.T) {
	image := noise(6 * sector)
	d := loaded(t, image)
	put(t, d, 4, encoded(sample(9)))
	put(t, d, 0, noise(sector)[:sector])
	put(t, d, 1, make([]byte, sector))
	store(t, "writes waiting", d, sample(8))
	copy(image[4*sector:], encoded(sample(9)))
	copy(image, encoded(sample(8)))
	copy(image[sector:], make([]byte, sector))
	checkDisk(t, "writes waiting", d, image)
}

// P14.2: Store doesn't ask what is on the disk: an older superblock is written, too.
func TestStoreOlder(t *testing.T) {
	d := loaded(t, filled(encoded(sample(100)), encoded(sample(101)), 4))
	store(t, "older", d, sample(4))
	checkDisk(t, "older", d, filled(encoded(sample(4)), encoded(sample(101)), 4))
	checkFound(t, "older", d, sample(101))
	store(t, "older", d, sample(3))
	checkDisk(t, "older", d, filled(encoded(sample(4)), encoded(sample(3)), 4))
	checkFound(t, "older", d, sample(4))
	store(t, "the same Gen", d, with(sample(4), fields()[1], 999))
	checkFound(t, "the same Gen", d, with(sample(4), fields()[1], 999))
	store(t, "the same one", d, with(sample(4), fields()[1], 999))
	checkFound(t, "the same one", d, with(sample(4), fields()[1], 999))
}

// P14.2: superblocks that follow each other are stored in turn.
func TestStoreInTurn(t *testing.T) {
	image := noise(5 * sector)
	d := loaded(t, image)
	for gen := 1; gen < 300; gen++ {
		store(t, "in turn", d, sample(gen))
		copy(image[gen%2*sector:], encoded(sample(gen)))
		checkFound(t, "in turn", d, sample(gen))
		checkDisk(t, "in turn", d, image)
	}
}

// wrongSupers are superblocks that aren't valid.
func wrongSupers() []api.Super {
	out := []api.Super{{}}
	for _, f := range fields() {
		for _, n := range wrongNumbers(f) {
			out = append(out, with(sample(4), f, n), with(sample(5), f, n))
		}
	}
	return out
}

// P14.2: Store of nil, of a superblock that isn't valid, and of both.
func TestStoreArguments(t *testing.T) {
	for _, s := range append(samples(), wrongSupers()...) {
		checkFault(t, "nil", super.Store(nil, s), 0, api.ErrNil)
	}
	image := filled(encoded(sample(4)), encoded(sample(5)), 3)
	for _, s := range wrongSupers() {
		d := loaded(t, image)
		d.Limit(5)
		put(t, d, 2, encoded(sample(1)))
		checkFault(t, "not valid", super.Store(d, s), 0, api.ErrArg)
		checkDisk(t, "not valid", d, image, pend{2, encoded(sample(1))})
		if n := left(d); n != 4 {
			t.Errorf("of 4 calls %d are left", n)
		}
		checkFault(t, "not valid, with the power off", super.Store(d, s), 0, api.ErrArg)
		checkFault(t, "not valid, on one sector", super.Store(loaded(t, image[:sector]), s), 0, api.ErrArg)
	}
}

// P14.2: a disk of one sector has none for a superblock of an odd Gen, even with
// the power off; one of an even Gen is stored.
func TestStoreRange(t *testing.T) {
	for _, s := range samples() {
		image := noise(sector)
		d := loaded(t, image)
		d.Limit(4)
		if s.Gen%2 == 0 {
			store(t, "one sector", d, s)
			checkDisk(t, "one sector", d, encoded(s))
			checkNotFound(t, "one sector", d, api.ErrRange)
			continue
		}
		put(t, d, 0, encoded(sample(2)))
		checkFault(t, "one sector", super.Store(d, s), 1, api.ErrRange)
		checkDisk(t, "one sector", d, image, pend{0, encoded(sample(2))})
		if n := left(d); n != 3 {
			t.Errorf("of 3 calls %d are left", n)
		}
		checkFault(t, "one sector with the power off", super.Store(d, s), 1, api.ErrRange)
	}
	d := loaded(t, noise(sector))
	d.Limit(0)
	checkFault(t, "one sector with the power off", super.Store(d, sample(4)), 0, api.ErrPower)
}

// P14.2: the power fails ahead of the write, ahead of the Flush, or not at all.
func TestStorePower(t *testing.T) {
	for _, s := range samples() {
		at := s.Gen % 2
		image := filled(noise(sector), noise(sector), 4)
		written := bytes.Clone(image)
		copy(written[at*sector:], encoded(s))

		d := loaded(t, image)
		d.Limit(0)
		checkFault(t, "a limit of 0", super.Store(d, s), at, api.ErrPower)
		checkDisk(t, "a limit of 0", d, image)
		checkFault(t, "the power off", super.Store(d, s), at, api.ErrPower)
		checkDisk(t, "the power off", d, image)

		d = loaded(t, image)
		d.Limit(1)
		checkFault(t, "a limit of 1", super.Store(d, s), at, api.ErrPower)
		checkDisk(t, "a limit of 1", d, image, pend{at, encoded(s)})
		checkFault(t, "the power off", super.Store(d, s), at, api.ErrPower)
		checkDisk(t, "the power off", d, image, pend{at, encoded(s)})

		for limit := 2; limit < 6; limit++ {
			d = loaded(t, image)
			d.Limit(limit)
			store(t, "enough calls", d, s)
			checkDisk(t, "enough calls", d, written)
			if n := left(d); n != limit-2 {
				t.Errorf("of %d calls %d are left", limit, n)
			}
		}
	}
}

// P14.2: what was waiting ahead of a Store whose Flush fails is waiting still,
// ahead of the superblock.
func TestStorePowerPending(t *testing.T) {
	image := filled(encoded(sample(4)), encoded(sample(5)), 5)
	d := loaded(t, image)
	put(t, d, 3, encoded(sample(9)))
	put(t, d, 0, noise(sector))
	d.Limit(1)
	checkFault(t, "writes waiting", super.Store(d, sample(6)), 0, api.ErrPower)
	checkDisk(t, "writes waiting", d, image, pend{3, encoded(sample(9))}, pend{0, noise(sector)}, pend{0, encoded(sample(6))})
}

// choices are all lists of different numbers below n, in any order.
func choices(n int) [][]int {
	out := [][]int{nil}
	for from := 0; from < len(out); from++ {
		for k := range n {
			if !slices.Contains(out[from], k) {
				out = append(out, append(slices.Clone(out[from]), k))
			}
		}
	}
	return out
}

// state is what a disk has ahead of a Store: the two first sectors.
type state struct {
	what          string
	first, second []byte
}

// states are what may be on a disk whose newest superblock has a Gen.
func states(gen int) []state {
	b := encoded(sample(gen))
	out := []state{
		{"beside zeros", b, make([]byte, sector)},
		{"beside noise", b, noise(sector)},
		{"beside a damaged one", b, damaged(sample(gen + 1))},
		{"beside one in the wrong sector", b, encoded(sample(gen + 2))},
	}
	if gen > 1 {
		out = append(out, state{"beside the former one", b, encoded(sample(gen - 1))})
	}
	if gen > 3 {
		out = append(out, state{"beside an older one", b, encoded(sample(gen - 3))})
	}
	if gen%2 == 1 {
		for i := range out {
			out[i].first, out[i].second = out[i].second, out[i].first
		}
	}
	return out
}

// P14.3: whenever a crash comes during a Store, and whichever writes it
// performs: the newest superblock is the new one or the previous one. It is the
// new one if its write was performed; a Store after the crash works.
func TestCrashes(t *testing.T) {
	for _, gen := range []int{1, 2, 3, 4, 5, 100, 101, 1 << 32, 1<<32 - 1, maxTime - 2, maxTime - 1} {
		for _, before := range states(gen) {
			for limit := range 3 {
				for _, keep := range choices(3) {
					checkCrash(t, before, gen, limit, keep)
				}
			}
		}
	}
}

// checkCrash lets a disk crash during the Store of the superblock that follows
// one of a Gen. Two other writes wait ahead of it.
func checkCrash(t *testing.T, before state, gen, limit int, keep []int) {
	t.Helper()
	s := sample(gen + 1)
	d := loaded(t, filled(before.first, before.second, 5))
	checkFound(t, before.what, d, sample(gen))
	put(t, d, 2, encoded(sample(gen+2)))
	put(t, d, 3, encoded(sample(gen+1)))
	d.Limit(limit)
	err := super.Store(d, s)
	if limit < 2 {
		checkFault(t, before.what, err, s.Gen%2, api.ErrPower)
	} else if err != nil {
		t.Errorf("%s: %v", before.what, err)
	}
	if want := []int{2, 3, 0}[limit]; d.Waiting() != want {
		t.Errorf("%s: %d writes are waiting, not %d", before.what, d.Waiting(), want)
	}
	d.Crash(keep...)
	want := sample(gen)
	if limit == 2 || limit == 1 && slices.Contains(keep, 2) {
		want = s
	}
	checkFound(t, before.what, d, want)
	checkFound(t, before.what+", again", d, want)
	store(t, before.what, d, s)
	checkFound(t, before.what+", stored", d, s)
	d.Crash()
	checkFound(t, before.what+", stored and crashed", d, s)
}

// P14.3: the first superblock of a disk is there after a crash, or none.
func TestCrashOfFirst(t *testing.T) {
	for _, s := range samples() {
		for limit := range 3 {
			for _, keep := range choices(1) {
				d := loaded(t, make([]byte, 3*sector))
				d.Limit(limit)
				err := super.Store(d, s)
				if (err == nil) != (limit == 2) {
					t.Errorf("with a limit of %d: %v", limit, err)
				}
				d.Crash(keep...)
				if limit == 2 || limit == 1 && len(keep) == 1 {
					checkFound(t, "the first one", d, s)
				} else {
					checkNotFound(t, "the first one", d, api.ErrNone)
				}
				store(t, "the first one", d, s)
				checkFound(t, "the first one", d, s)
			}
		}
	}
}

// P14.3: one crash after the other, each during a Store of the superblock that
// follows the newest one.
func TestManyCrashes(t *testing.T) {
	r := rand.New(rand.NewSource(3))
	for range 200 {
		d := loaded(t, noise(2*sector))
		last := sample(1 + r.Intn(1000))
		store(t, "the first one", d, last)
		for range 40 {
			s := with(sample(last.Gen+1), fields()[1], r.Intn(maxTime))
			d.Limit(r.Intn(3))
			err := super.Store(d, s)
			d.Crash(choices(2)[r.Intn(5)]...)
			u, other := super.Find(d)
			if other != nil || u != s && (u != last || err == nil) {
				t.Fatalf("after %v and Store of %v, which returned %v: %v, %v", last, s, err, u, other)
			}
			last = u
		}
	}
}

// stored is a Store by the chapter's promises. It returns the position and the
// number of the error.
func stored(d *disk.Disk, s api.Super) (int, api.Errno) {
	if !valid(s) {
		return 0, api.ErrArg
	}
	if x := d.Write(s.Gen%2, encoded(s)); x != api.OK {
		return s.Gen % 2, x
	}
	return s.Gen % 2, d.Flush()
}

// located is a Find by the chapter's promises.
func located(d *disk.Disk) (api.Super, api.Errno) {
	b, x := d.Read(0, 2)
	if x != api.OK {
		return api.Super{}, x
	}
	s, ok := newest(b)
	if !ok {
		return api.Super{}, api.ErrNone
	}
	return s, api.OK
}

// checkAgainst holds an error against what it has to be, OK or not.
func checkAgainst(t *testing.T, what string, err error, at int, x api.Errno) {
	t.Helper()
	if x != api.OK {
		checkFault(t, what, err, at, x)
	} else if err != nil {
		t.Errorf("%s: %v", what, err)
	}
}

// step does one thing to both disks, the second time by the chapter's promises.
func step(t *testing.T, r *rand.Rand, d, model *disk.Disk) {
	t.Helper()
	switch r.Intn(8) {
	case 0:
		limit := r.Intn(8) - 1
		d.Limit(limit)
		model.Limit(limit)
	case 1:
		keep := choices(3)[r.Intn(16)]
		d.Crash(keep...)
		model.Crash(keep...)
	case 2:
		at, b := r.Intn(3), pieces()[r.Intn(8)]
		d.Write(at, b)
		model.Write(at, b)
	case 3, 4:
		s, err := super.Find(d)
		want, x := located(model)
		checkAgainst(t, "Find", err, 0, x)
		if s != want {
			t.Errorf("Find: %v, want %v", s, want)
		}
	default:
		s := sample(1 + r.Intn(6))
		if r.Intn(3) == 0 {
			s = anySuper(r)
		}
		err := super.Store(d, s)
		at, x := stored(model, s)
		checkAgainst(t, "Store", err, at, x)
	}
	if d.Waiting() != model.Waiting() || !slices.EqualFunc(d.All(), model.All(), bytes.Equal) || !bytes.Equal(d.Image(), model.Image()) {
		t.Error("the disk has something else")
	}
}

// P14.2, P14.3: any calls in any order, held against another disk.
func TestAnyCalls(t *testing.T) {
	r := rand.New(rand.NewSource(4))
	for range 1000 {
		n := 1 + r.Intn(4)
		d, model := loaded(t, make([]byte, n*sector)), loaded(t, make([]byte, n*sector))
		for range 30 {
			step(t, r, d, model)
		}
		if t.Failed() {
			return
		}
	}
}

// P14.3: what Octets returns shares no memory with another result, and can be
// changed without an effect.
func TestOctetsAreNewMemory(t *testing.T) {
	for _, s := range samples() {
		want := encoded(s)
		b, _ := super.Octets(s)
		other, _ := super.Octets(s)
		spoil(b)
		if !bytes.Equal(other, want) {
			t.Errorf("%v: a result changes with another one", s)
		}
		if again, ok := super.Octets(s); !ok || !bytes.Equal(again, want) {
			t.Errorf("%v: %x after a result was changed", s, again)
		}
		spoil(other)
		d := loaded(t, make([]byte, 2*sector))
		store(t, "after a result was changed", d, s)
		checkFound(t, "after a result was changed", d, s)
	}
	nothing, _ := super.Octets(api.Super{})
	spoil(nothing)
	checkRight(t, sample(4))
}

// P14.3: what Store wrote doesn't change with what Octets returned, nor what Find
// returned with the disk.
func TestDiskIsApart(t *testing.T) {
	d := loaded(t, make([]byte, 3*sector))
	b, _ := super.Octets(sample(4))
	store(t, "once", d, sample(4))
	image := d.Image()
	spoil(b)
	checkDisk(t, "a result changed", d, image)
	s, _ := super.Find(d)
	store(t, "a second one", d, sample(5))
	if s != sample(4) {
		t.Errorf("what was found is now %v", s)
	}
	s.Gen, s.Boot, s.Slots = 9, 9, 9
	checkFound(t, "what was found changed", d, sample(5))
}

// P14.3: what was read doesn't change with the octets.
func TestReadIsNewMemory(t *testing.T) {
	b := roomy(join(encoded(sample(4)), encoded(sample(5))))
	first, _ := super.Read(b[:sector], 0)
	latest, _ := super.Newest(b)
	spoil(b)
	if first != sample(4) || latest != sample(5) {
		t.Errorf("%v and %v after the octets were changed", first, latest)
	}
	checkNone(t, b[:sector], 0)
	checkNoNewest(t, "octets that were changed", b)
	spoil(b)
	checkRead(t, b[:sector], 0, sample(4))
	checkNewest(t, "octets that were changed back", b, sample(5))
}

// P14.3: the octets that are read, and what is behind them, stay as they were.
func TestArgumentsStay(t *testing.T) {
	for _, first := range pieces() {
		for _, second := range pieces() {
			b := roomy(join(first, second))
			kept := bytes.Clone(whole(b))
			for place := -1; place <= 2; place++ {
				super.Read(b, place)
				super.Read(b[:sector], place)
				super.Read(b[:sector-1], place)
				super.Read(b[sector:], place)
			}
			super.Newest(b)
			super.Newest(b[:2*sector-1])
			super.Newest(whole(b))
			if !bytes.Equal(whole(b), kept) {
				t.Fatal("an argument was changed")
			}
		}
	}
}

// P14.3: no call has an effect on another one's result.
func TestCallsAreApart(t *testing.T) {
	even, odd := encoded(sample(4)), encoded(sample(5))
	for range 3 {
		checkRead(t, even, 0, sample(4))
		checkNone(t, damaged(sample(4)), 0)
		checkWrong(t, api.Super{Gen: -1})
		checkRead(t, odd, 1, sample(5))
		checkNewest(t, "both", join(even, odd), sample(5))
		checkNewest(t, "one", join(even, even), sample(4))
		checkNoNewest(t, "none", join(odd, even))
		checkRight(t, sample(4))
		checkNotFound(t, "nil", nil, api.ErrNil)
		d, other := loaded(t, make([]byte, 2*sector)), loaded(t, make([]byte, 2*sector))
		store(t, "one of two disks", d, sample(4))
		checkNotFound(t, "the other disk", other, api.ErrNone)
		checkFound(t, "the one disk", d, sample(4))
	}
}

func FuzzRead(f *testing.F) {
	for _, b := range pieces() {
		f.Add(b, 0)
		f.Add(b, 1)
	}
	f.Fuzz(func(t *testing.T, b []byte, place int) {
		if len(b) >= 32 {
			sealed := checked(b[:32])
			b = join(sealed, b[32:])
		}
		if want, ok := parsed(b, place); ok {
			checkRead(t, b, place, want)
		} else {
			checkNone(t, b, place)
		}
	})
}

func FuzzNewest(f *testing.F) {
	for _, b := range pieces() {
		f.Add(b, encoded(sample(5)))
		f.Add(encoded(sample(4)), b)
	}
	f.Fuzz(func(t *testing.T, first, second []byte) {
		b := join(first, second)
		if want, ok := newest(b); ok {
			checkNewest(t, "any", b, want)
		} else {
			checkNoNewest(t, "any", b)
		}
	})
}

func FuzzSuper(f *testing.F) {
	for _, s := range append(samples(), wrongSupers()...) {
		f.Add(s.Gen, s.Boot, s.Slots, s.Segments, s.Size)
	}
	f.Fuzz(func(t *testing.T, gen, boot, slots, segments, size int) {
		s := api.Super{Gen: gen, Boot: boot, Slots: slots, Segments: segments, Size: size}
		if valid(s) {
			checkRight(t, s)
		} else {
			checkWrong(t, s)
		}
	})
}
