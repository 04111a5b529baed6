package log_test

import (
	"bytes"
	"crypto/sha256"
	"encoding/binary"
	"encoding/hex"
	"errors"
	"fmt"
	"hash/crc32"
	"math"
	"math/rand"
	"slices"
	"strings"
	"testing"

	"engrosser/api"
	"engrosser/disk"
	"engrosser/fault"
	"engrosser/log"
)

// What the document has for the limits, and for the parts of a segment.
const (
	sector   = 128
	maxParts = 256
	maxSize  = 512
	maxDisk  = 65536
	maxText  = 65535

	headSize  = 128
	frameMore = 40 // octets of a frame beside the text
	footSize  = 48
)

// text is n octets that differ from their neighbours, other ones for another k.
func text(n, k int) []byte {
	b := make([]byte, n)
	for i := range b {
		b[i] = byte(i*7 + i>>8 + 1 + k)
	}
	return b
}

// some are texts of these lengths, all of them different.
func some(lengths ...int) [][]byte {
	var out [][]byte
	for k, n := range lengths {
		out = append(out, text(n, k))
	}
	return out
}

// noise is n octets, none of them zero.
func noise(n int) []byte {
	b := make([]byte, n)
	for i := range b {
		b[i] = byte(1 + (i*7+i>>8)%255)
	}
	return b
}

// changed is a copy of b with another octet at a place.
func changed(b []byte, at int, by byte) []byte {
	b = bytes.Clone(b)
	b[at] ^= by
	return b
}

// join is all of the parts, in new memory.
func join(parts ...[]byte) []byte {
	return bytes.Join(parts, nil)
}

// roomy is a copy of b with something behind it.
func roomy(b []byte) []byte {
	return append(bytes.Clone(b), bytes.Repeat([]byte{0xee}, 300)...)[:len(b)]
}

// whole is b with what is behind it.
func whole(b []byte) []byte {
	return b[:cap(b)]
}

// spoil changes each octet of b and of its spare capacity.
func spoil(b []byte) {
	b = whole(b)
	for i := range b {
		b[i] ^= 255
	}
}

// copied are the texts in new memory.
func copied(texts [][]byte) [][]byte {
	var out [][]byte
	for _, b := range texts {
		out = append(out, bytes.Clone(b))
	}
	return out
}

// same tells whether two lists of texts are.
func same(a, b [][]byte) bool {
	return slices.EqualFunc(a, b, bytes.Equal)
}

// checked is b and its checksum, by Go's own library.
func checked(b []byte) []byte {
	return binary.BigEndian.AppendUint32(bytes.Clone(b), crc32.ChecksumIEEE(b))
}

// digest is the chain after a text, by Go's own library.
func digest(chain, b []byte) []byte {
	sum := sha256.Sum256(join(chain, b))
	return sum[:]
}

// chainOf is the chain after all texts.
func chainOf(texts [][]byte) []byte {
	chain := make([]byte, 32)
	for _, b := range texts {
		chain = digest(chain, b)
	}
	return chain
}

// number is a number in some octets.
func number(octets, n int) []byte {
	return binary.BigEndian.AppendUint64(nil, uint64(n))[8-octets:]
}

// head is a segment's header, by chapter 13's Terms.
func head(n, count int, chain []byte) []byte {
	b := checked(join([]byte("engr"), number(4, n), chain, number(8, count)))
	return append(b, make([]byte, sector-len(b))...)
}

// frame is a text's frame, by chapter 13's Terms.
func frame(chain, b []byte) []byte {
	return checked(join(number(4, len(b)), b, digest(chain, b)))
}

// foot is a segment's footer, by chapter 13's Terms.
func foot(count int, chain []byte) []byte {
	return checked(join([]byte{255, 255, 255, 255}, number(8, count), chain))
}

// parsed are the contents of a segment, field by field of chapter 13's Terms.
func parsed(b []byte, n, count int, chain []byte) (api.Parsed, bool) {
	if !bytes.Equal(b[:sector], head(n, count, chain)) {
		return api.Parsed{}, false
	}
	p := api.Parsed{Chain: chain}
	rest := b[sector:]
	for len(rest) > frameMore {
		n := int(binary.BigEndian.Uint32(rest))
		if n == 0 || n > maxText || n > len(rest)-frameMore || !bytes.Equal(rest[:frameMore+n], frame(p.Chain, rest[4:4+n])) {
			break
		}
		p.Texts = append(p.Texts, rest[4:4+n])
		p.Chain = digest(p.Chain, rest[4:4+n])
		rest = rest[frameMore+n:]
	}
	if bytes.HasPrefix(rest, foot(count+len(p.Texts), p.Chain)) {
		p.Sealed = true
		rest = rest[footSize:]
	}
	p.Used = len(b) - len(rest)
	return p, true
}

// region is a part of a disk, as Open is given it.
type region struct {
	from, segments, size int
}

// octets is how many the region has.
func (r region) octets() int {
	return r.segments * r.size * sector
}

// built are the octets of a region, and the end of the log in it: a segment for
// each list of texts, all of them sealed but the last one, which is as asked.
// Behind the end there are zeros.
func built(r region, sealed bool, lists ...[][]byte) ([]byte, int) {
	b := make([]byte, r.octets())
	var all [][]byte
	end := 0
	for n, texts := range lists {
		end = n * r.size * sector
		end += copy(b[end:], head(n, len(all), chainOf(all)))
		for _, text := range texts {
			end += copy(b[end:], frame(chainOf(all), text))
			all = append(all, text)
		}
		if sealed || n < len(lists)-1 {
			end += copy(b[end:], foot(len(all), chainOf(all)))
		}
	}
	return b, end
}

// within is the contents of a disk with some octets in a region's place, and
// noise ahead of it and behind.
func within(r region, b []byte) []byte {
	return join(noise(r.from*sector), b, noise(3*sector))
}

// loaded is a disk with an image.
func loaded(t *testing.T, image []byte) *disk.Disk {
	t.Helper()
	d, x := disk.Load(image)
	if x != api.OK {
		t.Fatalf("Load of %d octets: %v", len(image), x)
	}
	return d
}

// put writes to a disk.
func put(t *testing.T, d *disk.Disk, at int, b []byte) {
	t.Helper()
	if x := d.Write(at, b); x != api.OK {
		t.Fatalf("Write(%d) = %v", at, x)
	}
}

// pend is a sector's write that is pending.
type pend struct {
	at int
	b  []byte
}

// pends are the writes that write octets from a sector on.
func pends(at int, b []byte) []pend {
	var out []pend
	for s := range slices.Chunk(b, sector) {
		out = append(out, pend{at, s})
		at++
	}
	return out
}

// checkDisk holds all that is on a disk.
func checkDisk(t *testing.T, what string, d *disk.Disk, durable []byte, pending ...pend) {
	t.Helper()
	image := bytes.Clone(durable)
	want := slices.Collect(slices.Chunk(durable, sector))
	for _, p := range pending {
		copy(image[p.at*sector:], p.b)
		want = append(want, p.b)
	}
	if d.Waiting() != len(pending) {
		t.Errorf("%s: %d writes are waiting, not %d", what, d.Waiting(), len(pending))
	}
	if !bytes.Equal(d.Image(), image) || !same(d.All(), want) {
		t.Errorf("%s: the disk has something else", what)
	}
}

// left is how many calls there are until the power is off, at most 100. It
// takes them.
func left(d *disk.Disk) int {
	for n := range 100 {
		if _, x := d.Read(0, 0); x != api.OK {
			return n
		}
	}
	return 100
}

// checkFault holds an error, OK for none, with all that can be asked about it.
func checkFault(t *testing.T, what string, err error, at int, x api.Errno) {
	t.Helper()
	if x == api.OK {
		if err != nil {
			t.Errorf("%s: %v", what, err)
		}
		return
	}
	var f *fault.Fault
	if !errors.As(err, &f) {
		t.Errorf("%s: %v is no fault", what, err)
		return
	}
	if f.Op != "log" || f.At != at || f.Err != x {
		t.Errorf("%s: %v, want log %d: %v", what, err, at, x)
	}
	if !errors.Is(err, x) || fault.Code(err) != x || !slices.Equal(fault.Ops(err), []string{"log"}) {
		t.Errorf("%s: %v doesn't wrap %v alone", what, err, x)
	}
	if place, ok := fault.Place(err, "log"); !ok || place != at {
		t.Errorf("%s: the place of %v is %d, %v", what, err, place, ok)
	}
	if want := fault.Wrap("log", at, x); err.Error() != want.Error() {
		t.Errorf("%s: %q, want %q", what, err, want)
	}
}

// checkLog holds all that a log tells.
func checkLog(t *testing.T, what string, l *log.Log, texts [][]byte, sure, segment int) {
	t.Helper()
	if got := l.Texts(); !same(got, texts) {
		t.Errorf("%s: %d texts %x, want %d", what, len(got), shortened(got), len(texts))
	}
	if n := l.Count(); n != len(texts) {
		t.Errorf("%s: %d texts are counted, not %d", what, n, len(texts))
	}
	if n := l.Sure(); n != sure {
		t.Errorf("%s: %d texts are sure, not %d", what, n, sure)
	}
	if got, want := l.Chain(), chainOf(texts); !bytes.Equal(got, want) {
		t.Errorf("%s: the chain is %x, not %x", what, got, want)
	}
	if n := l.Segment(); n != segment {
		t.Errorf("%s: segment %d, not %d", what, n, segment)
	}
}

// shortened are the beginnings of the first texts, to be told.
func shortened(texts [][]byte) [][]byte {
	var out [][]byte
	for _, b := range texts[:min(len(texts), 5)] {
		out = append(out, b[:min(len(b), 20)])
	}
	return out
}

// open opens what has to be a log.
func open(t *testing.T, what string, d *disk.Disk, r region) *log.Log {
	t.Helper()
	l, err := log.Open(d, r.from, r.segments, r.size)
	if err != nil || l == nil {
		t.Fatalf("%s: Open(%v): %v", what, r, err)
	}
	return l
}

// checkNotOpened opens what isn't to be a log.
func checkNotOpened(t *testing.T, what string, d *disk.Disk, r region, at int, x api.Errno) {
	t.Helper()
	l, err := log.Open(d, r.from, r.segments, r.size)
	if l != nil {
		t.Errorf("%s: a log beside %v", what, err)
	}
	checkFault(t, fmt.Sprintf("%s: Open(%v)", what, r), err, at, x)
}

// add appends texts, for all of which there is space.
func add(t *testing.T, what string, l *log.Log, texts ...[]byte) {
	t.Helper()
	for _, b := range texts {
		if err := l.Append(b); err != nil {
			t.Fatalf("%s: Append of %d octets behind %d: %v", what, len(b), l.Count(), err)
		}
	}
}

// flush flushes a log without an error.
func flush(t *testing.T, what string, l *log.Log) {
	t.Helper()
	if err := l.Flush(); err != nil {
		t.Fatalf("%s: Flush of %d: %v", what, l.Count(), err)
	}
}

// The limits are the document's.
func TestLimits(t *testing.T) {
	if api.Sector != sector || api.MaxParts != maxParts || api.MaxSize != maxSize || api.MaxDisk != maxDisk || api.HashSize != 32 {
		t.Error("a limit isn't the document's")
	}
}

// P15.2: the chapter's example.
func TestExample(t *testing.T) {
	r := region{1, 3, 2}
	a, b := text(40, 0), text(40, 1)
	d := loaded(t, within(r, make([]byte, r.octets())))
	l := open(t, "zeros", d, r)
	add(t, "the first", l, a)
	checkLog(t, "the first", l, [][]byte{a}, 0, 0)
	add(t, "another one", l, b)
	checkLog(t, "another one", l, [][]byte{a, b}, 0, 1)
	flush(t, "both", l)
	checkLog(t, "both", l, [][]byte{a, b}, 2, 1)
	want, _ := built(r, false, [][]byte{a}, [][]byte{b})
	checkDisk(t, "both", d, within(r, want))
	checkLog(t, "opened", open(t, "opened", d, r), [][]byte{a, b}, 2, 1)
}

// decoded are octets in hexadecimal digits, and zeros up to a whole sector.
func decoded(t *testing.T, digits string) []byte {
	t.Helper()
	b, err := hex.DecodeString(digits)
	if err != nil {
		t.Fatal(err)
	}
	return append(b, make([]byte, sector-len(b))...)
}

// P15.1, P15.2: a log's octets that were made by another program (Python).
func TestKnown(t *testing.T) {
	r := region{1, 3, 2}
	texts := [][]byte{[]byte(strings.Repeat("a", 40)), []byte("hello"), []byte("x")}
	want := join(
		decoded(t, "656e677200000000000000000000000000000000000000000000000000000000000000000000000000000000000000005d0dc78e"),
		decoded(t, "00000028616161616161616161616161616161616161616161616161616161616161616161616161616161610725685fb1fa6f5b0877cd5faf6ebe8a73855815bfddb0e46fcdd010473f8d269b80ebb1"+
			"ffffffff00000000000000010725685fb1fa6f5b0877cd5faf6ebe8a73855815bfddb0e46fcdd010473f8d26037251ac"),
		decoded(t, "656e6772000000010725685fb1fa6f5b0877cd5faf6ebe8a73855815bfddb0e46fcdd010473f8d260000000000000001c9dd1154"),
		decoded(t, "0000000568656c6c6f036f5e622e7cac049024bb1e5a96c8237a584822fb5d09d1452ec336e8d0914e31b7fe9f"+
			"ffffffff0000000000000002036f5e622e7cac049024bb1e5a96c8237a584822fb5d09d1452ec336e8d0914e0b0e88ed"),
		decoded(t, "656e677200000002036f5e622e7cac049024bb1e5a96c8237a584822fb5d09d1452ec336e8d0914e0000000000000002c7284270"),
		decoded(t, "00000001781ee7e45bc081a1f3a6b2276b5ca5f0825b3aca8aa46d9ce0fef7aa09641228c06b779c50"),
	)
	d := loaded(t, within(r, noise(r.octets())))
	l := open(t, "noise", d, r)
	add(t, "known texts", l, texts...)
	checkLog(t, "known texts", l, texts, 0, 2)
	flush(t, "known texts", l)
	checkDisk(t, "known texts", d, within(r, want))
	if got := hex.EncodeToString(l.Chain()); got != "1ee7e45bc081a1f3a6b2276b5ca5f0825b3aca8aa46d9ce0fef7aa09641228c0" {
		t.Errorf("the chain is %s", got)
	}
	again := loaded(t, within(r, want))
	checkLog(t, "known octets", open(t, "known octets", again, r), texts, 3, 2)
	checkDisk(t, "known octets", again, within(r, want))
}

// P15.1, P15.2: digests of the octets, and chains, that were made by another
// program (Python), for logs of other sizes.
func TestKnownDigests(t *testing.T) {
	var upTo59 []int
	for n := 1; n < 60; n++ {
		upTo59 = append(upTo59, n)
	}
	tests := []struct {
		r             region
		lengths       []int
		segment       int
		digest, chain string
	}{
		{region{0, 3, 2}, []int{40, 40, 40}, 2, "452c82f1125c864a609d4c719859ebaa632646d55340bb0f77c29f6ca4de3d58", "6bf58523c4ac819d180afeab53daea064e4dabae7ae9a748b193743f08d4b872"},
		{region{1, 4, 3}, []int{1, 2, 3, 168, 100, 5}, 2, "4f64f322e1837485120722a1e3b7ce54cbcaea1b5e441510d7f9c871fe71cf66", "4f0042593271dd63a3262eafcd959b2f67006ded16562b73228ae882d0720966"},
		{region{2, 5, 4}, []int{296, 1, 100, 100, 57, 296}, 3, "0b88ca6b94c3c2b3bd7ccbe1017888ca6421782845fad0b9f7015ed8a7128a1c", "fe54c889e0164435285dbd0a78fe7aeb273d234462ef0e38829d18f0a4ea1188"},
		{region{7, 3, 512}, []int{65320, 7, 60000, 5000, 500}, 2, "4fa5a046d9aa6dd50b9fdcaeef413b1d11fec988b95d1f327a1e0210c30eba73", "82f549c4286952216faa8b9086bd1a40bfa741cdd77be9a48ea5622301d6b035"},
		{region{0, 9, 7}, upTo59, 5, "829fdc9b8cd438a408b09495c113d5663aae1fc3a5215f1b0b5b3e75b9a00fa3", "442856a9cd7958ede3cdd3b8b43f68a49f57a602d5cbbd94c75f31385875cc31"},
	}
	for _, x := range tests {
		for every := 1; every <= 4; every++ {
			what := fmt.Sprintf("%v, a Flush every %d", x.r, every)
			texts := some(x.lengths...)
			d := loaded(t, within(x.r, noise(x.r.octets())))
			l := open(t, what, d, x.r)
			for n, b := range texts {
				add(t, what, l, b)
				if n%every == 0 {
					flush(t, what, l)
				}
			}
			flush(t, what, l)
			checkLog(t, what, l, texts, len(texts), x.segment)
			b := d.Image()[x.r.from*sector:][:x.r.octets()]
			if sum := sha256.Sum256(b); hex.EncodeToString(sum[:]) != x.digest || hex.EncodeToString(l.Chain()) != x.chain {
				t.Errorf("%s: %x, %x", what, sum, l.Chain())
			}
			checkDisk(t, what, d, within(x.r, b))
			checkLog(t, what+", opened", open(t, what, d, x.r), texts, len(texts), x.segment)
		}
	}
}

// wrongCounts are numbers of segments or sectors that are out of a range.
func wrongCounts(low, high int) []int {
	return []int{
		low - 1, high + 1, 0, -1, -2, -low, -high, high + 2, 2 * high, math.MinInt, math.MinInt + 1, math.MinInt + 2,
		math.MaxInt, math.MaxInt - 1, 1<<32 + low, 1<<32 + high, 1 << 32, 1 << 31, -1 << 32, 1<<62 + low, 1 << 62,
	}
}

// P15.1: without a disk, everything else may be wrong, too.
func TestOpenNil(t *testing.T) {
	for _, from := range []int{0, 1, -1, math.MinInt, math.MaxInt} {
		for _, segments := range append(wrongCounts(1, maxParts), 1, 3, maxParts) {
			for _, size := range append(wrongCounts(2, maxSize), 2, 4, maxSize) {
				checkNotOpened(t, "nil", nil, region{from, segments, size}, 0, api.ErrNil)
			}
		}
	}
}

// checkUsable sees that a disk has all of its calls left, and what it had.
func checkUsable(t *testing.T, what string, d *disk.Disk, image []byte, calls int) {
	t.Helper()
	checkDisk(t, what, d, image)
	if n := left(d); n != calls {
		t.Errorf("%s: %d calls are left, not %d", what, n, calls)
	}
}

// P15.1: a number of segments or of sectors out of its range comes ahead of a
// region that isn't on the disk, and of the power; the disk isn't touched.
func TestOpenArguments(t *testing.T) {
	image := noise(40 * sector)
	for _, limit := range []int{0, 2, 99} {
		d := loaded(t, image)
		d.Limit(limit)
		for _, from := range []int{0, 1, -1, 39, 40, 41, math.MinInt, math.MaxInt} {
			for _, segments := range wrongCounts(1, maxParts) {
				for _, size := range append(wrongCounts(2, maxSize), 2, 4, maxSize) {
					checkNotOpened(t, "segments", d, region{from, segments, size}, 0, api.ErrArg)
				}
			}
			for _, size := range wrongCounts(2, maxSize) {
				for _, segments := range []int{1, 2, 3, 20, maxParts} {
					checkNotOpened(t, "size", d, region{from, segments, size}, 0, api.ErrArg)
				}
			}
			checkNotOpened(t, "a size of 1", d, region{from, 1, 1}, 0, api.ErrArg)
		}
		checkUsable(t, "wrong arguments", d, image, limit)
	}
}

// P15.1: a region that isn't all on the disk comes ahead of the power; the disk
// isn't touched.
func TestOpenRange(t *testing.T) {
	image := noise(12 * sector)
	for _, limit := range []int{0, 3, 99} {
		d := loaded(t, image)
		d.Limit(limit)
		for _, r := range []region{
			{-1, 1, 2}, {-1, 3, 4}, {-2, 1, 2}, {-11, 3, 4}, {-12, 3, 4}, {-13, 3, 4}, {11, 1, 2}, {12, 1, 2}, {13, 1, 2}, {1, 3, 4}, {1, 1, 12}, {1, 6, 2}, {7, 3, 2}, {7, 2, 3}, {7, 1, 6},
			{0, 1, 13}, {0, 7, 2}, {0, 13, 2}, {0, maxParts, 2}, {0, 1, maxSize}, {0, maxParts, maxSize}, {1, maxParts, maxSize}, {12, maxParts, maxSize},
		} {
			checkNotOpened(t, "not on the disk", d, r, 0, api.ErrRange)
		}
		for _, from := range []int{math.MaxInt, math.MaxInt - 1, math.MaxInt - 2, math.MaxInt - 11, math.MaxInt - 12, math.MinInt, math.MinInt + 1, math.MinInt + 12, 1 << 62, -1 << 62, 1 << 32, 1<<57 + 1, 1 << 56, -1 << 32} {
			for _, of := range [][2]int{{1, 2}, {3, 4}, {6, 2}, {1, 12}, {maxParts, maxSize}} {
				checkNotOpened(t, "far away", d, region{from, of[0], of[1]}, 0, api.ErrRange)
			}
		}
		checkUsable(t, "not on the disk", d, image, limit)
	}
}

// P15.1: a region may have any place on its disk that has enough sectors.
func TestOpenPlaces(t *testing.T) {
	for sectors := 1; sectors <= 9; sectors++ {
		for from := -2; from <= sectors+2; from++ {
			for segments := 1; segments <= 4; segments++ {
				for size := 2; size <= 9; size++ {
					r := region{from, segments, size}
					d := loaded(t, noise(sectors*sector))
					if from < 0 || from+segments*size > sectors {
						checkNotOpened(t, "a small disk", d, r, 0, api.ErrRange)
						checkDisk(t, "a small disk", d, noise(sectors*sector))
						continue
					}
					l := open(t, "a small disk", d, r)
					checkLog(t, "a small disk", l, nil, 0, 0)
					want := noise(sectors * sector)
					clear(want[from*sector:][:r.octets()])
					checkDisk(t, "a small disk", d, want)
					add(t, "a small disk", l, text(40, 0))
					flush(t, "a small disk", l)
					if _, x := d.Read(0, 0); x != api.OK {
						t.Error(x)
					}
				}
			}
		}
	}
}

// model is a log by the chapter's Terms: all octets of its region, as they are
// to be once they are flushed.
type model struct {
	region
	d      *disk.Disk
	b      []byte
	texts  [][]byte
	last   int // the last segment, or -1
	sealed bool
	end    int
	first  int // where the new octets begin, or -1
	sure   int
	dead   bool
}

// modelled is what Open returns by P15.1, or the position and the number of the
// error.
func modelled(d *disk.Disk, r region) (*model, int, api.Errno) {
	switch {
	case d == nil:
		return nil, 0, api.ErrNil
	case r.segments < 1 || r.segments > maxParts || r.size < 2 || r.size > maxSize:
		return nil, 0, api.ErrArg
	case r.from < 0 || r.from > maxDisk || r.from+r.segments*r.size > d.Size():
		return nil, 0, api.ErrRange
	}
	b, x := d.Read(r.from, r.segments*r.size)
	if x != api.OK {
		return nil, 0, x
	}
	m := &model{region: r, d: d, b: b, last: -1, first: -1}
	m.find()
	for i := m.end; i < len(b); i++ {
		b[i] = 0
	}
	if at := m.end / sector; at < r.segments*r.size {
		if x := d.Write(r.from+at, b[at*sector:]); x != api.OK {
			return nil, len(m.texts), x
		}
	}
	m.sure = len(m.texts)
	return m, len(m.texts), d.Flush()
}

// find finds the texts of the region, and the end.
func (m *model) find() {
	for n := range m.segments {
		at := n * m.size * sector
		p, ok := parsed(m.b[at:][:m.size*sector], n, len(m.texts), chainOf(m.texts))
		if !ok {
			return
		}
		m.texts = append(m.texts, copied(p.Texts)...)
		m.last, m.sealed, m.end = n, p.Sealed, at+p.Used
		if !p.Sealed {
			return
		}
	}
}

// space is how many octets of the last segment are not used.
func (m *model) space() int {
	return (m.last+1)*m.size*sector - m.end
}

// append is Append by P15.2.
func (m *model) append(b []byte) api.Errno {
	need := len(b) + frameMore + footSize
	switch {
	case m.dead:
		return api.ErrPower
	case len(b) == 0 || len(b) > maxText || headSize+need > m.size*sector:
		return api.ErrLong
	}
	if m.last < 0 || m.sealed || m.space() < need {
		if m.last+1 == m.segments {
			return api.ErrFull
		}
		if m.last >= 0 && !m.sealed && m.space() < footSize {
			return api.ErrFull // see TestNoSpaceForFooter
		}
		m.begin()
	}
	m.lay(frame(chainOf(m.texts), b))
	m.texts = append(m.texts, bytes.Clone(b))
	return api.OK
}

// begin seals the last segment, if there is one that isn't sealed, and begins
// the next one.
func (m *model) begin() {
	if m.last >= 0 && !m.sealed {
		m.lay(foot(len(m.texts), chainOf(m.texts)))
	}
	m.last++
	m.sealed = false
	m.end = m.last * m.size * sector
	m.lay(head(m.last, len(m.texts), chainOf(m.texts)))
}

// lay lays octets at the end.
func (m *model) lay(b []byte) {
	if m.first < 0 {
		m.first = m.end
	}
	m.end += copy(m.b[m.end:], b)
}

// fresh are the sectors that Flush is to write: the first one of the region's,
// and their octets.
func (m *model) fresh() (int, []byte) {
	from, to := m.first/sector, (m.end-1)/sector+1
	return from, m.b[from*sector : to*sector]
}

// flush is Flush by P15.2.
func (m *model) flush() api.Errno {
	if m.dead {
		return api.ErrPower
	}
	if m.first < 0 {
		return api.OK
	}
	at, b := m.fresh()
	x := m.d.Write(m.from+at, b)
	if x == api.OK {
		x = m.d.Flush()
	}
	m.dead = x != api.OK
	if !m.dead {
		m.sure, m.first = len(m.texts), -1
	}
	return x
}

// twin is a log and a model of it, each on a disk of its own. The disks had the
// same contents at first, and everything is done to both of them.
type twin struct {
	d, other *disk.Disk
	l        *log.Log
	m        *model
}

// twins are two disks with an image, and no log yet.
func twins(t *testing.T, image []byte) *twin {
	t.Helper()
	return &twin{d: loaded(t, image), other: loaded(t, image)}
}

// opened are two disks with some octets in a region, and the log of that.
func opened(t *testing.T, what string, r region, b []byte) *twin {
	t.Helper()
	w := twins(t, within(r, b))
	if x := w.open(t, what, r); x != api.OK {
		t.Fatalf("%s: Open(%v): %v", what, r, x)
	}
	return w
}

// check holds the log and its disk against the model and its disk.
func (w *twin) check(t *testing.T, what string) {
	t.Helper()
	if w.m != nil {
		checkLog(t, what, w.l, w.m.texts, w.m.sure, max(w.m.last, 0))
	}
	if w.d.Waiting() != w.other.Waiting() || !same(w.d.All(), w.other.All()) || !bytes.Equal(w.d.Image(), w.other.Image()) {
		t.Errorf("%s: the disk has something else", what)
	}
}

// open opens both, anew.
func (w *twin) open(t *testing.T, what string, r region) api.Errno {
	t.Helper()
	l, err := log.Open(w.d, r.from, r.segments, r.size)
	m, at, x := modelled(w.other, r)
	checkFault(t, fmt.Sprintf("%s: Open(%v)", what, r), err, at, x)
	if (l == nil) != (x != api.OK) {
		t.Fatalf("%s: Open(%v): %v, %v", what, r, l, err)
	}
	if x != api.OK {
		m = nil
	}
	w.l, w.m = l, m
	w.check(t, what+", opened")
	return x
}

// append appends to both.
func (w *twin) append(t *testing.T, what string, b []byte) api.Errno {
	t.Helper()
	at := len(w.m.texts)
	err := w.l.Append(b)
	x := w.m.append(b)
	what = fmt.Sprintf("%s: Append of %d octets", what, len(b))
	checkFault(t, what, err, at, x)
	w.check(t, what)
	return x
}

// add appends texts to both, for all of which there is space.
func (w *twin) add(t *testing.T, what string, texts ...[]byte) {
	t.Helper()
	for _, b := range texts {
		if x := w.append(t, what, b); x != api.OK {
			t.Fatalf("%s: Append of %d octets behind %d texts: %v", what, len(b), len(w.m.texts), x)
		}
	}
}

// flush flushes both.
func (w *twin) flush(t *testing.T, what string) api.Errno {
	t.Helper()
	err := w.l.Flush()
	x := w.m.flush()
	checkFault(t, what+": Flush", err, len(w.m.texts), x)
	w.check(t, what+": Flush")
	return x
}

// sure flushes both without an error.
func (w *twin) sure(t *testing.T, what string) {
	t.Helper()
	if x := w.flush(t, what); x != api.OK {
		t.Fatalf("%s: Flush: %v", what, x)
	}
}

// limit limits both disks' calls.
func (w *twin) limit(calls int) {
	w.d.Limit(calls)
	w.other.Limit(calls)
}

// crash lets both disks crash.
func (w *twin) crash(keep ...int) {
	w.d.Crash(keep...)
	w.other.Crash(keep...)
}

// checkLeft sees how many calls are left. It takes them.
func (w *twin) checkLeft(t *testing.T, what string, want int) {
	t.Helper()
	if n, m := left(w.d), left(w.other); n != want || m != want {
		t.Errorf("%s: %d calls are left, not %d", what, n, want)
	}
}

// P15.1: the greatest regions, and ones at the ends of the ranges.
func TestOpenGreat(t *testing.T) {
	w := twins(t, noise(maxDisk*sector))
	for _, r := range []region{{0, 128, maxSize}, {0, maxParts, 256}, {1, maxParts, 255}, {maxDisk - 2, 1, 2}, {maxDisk - 512, maxParts, 2}, {maxDisk - maxSize, 1, maxSize}, {0, 1, 2}} {
		for _, beside := range []region{{r.from, r.segments + 1, r.size}, {r.from, r.segments, r.size + 1}, {r.from + 1, r.segments, r.size}} {
			if beside.segments > maxParts || beside.size > maxSize {
				checkNotOpened(t, "beyond the range", w.d, beside, 0, api.ErrArg)
			} else if beside.from+beside.segments*beside.size > maxDisk {
				checkNotOpened(t, "beyond the disk", w.d, beside, 0, api.ErrRange)
			}
		}
		put(t, w.d, r.from, noise(r.octets()))
		put(t, w.other, r.from, noise(r.octets()))
		if x := w.open(t, "a great one", r); x != api.OK {
			t.Fatalf("Open(%v): %v", r, x)
		}
		checkLog(t, "a great one", w.l, nil, 0, 0)
		w.append(t, "a great one", text(40, 1))
		w.append(t, "a great one", text(r.size*sector-headSize-frameMore-footSize, 2))
		w.append(t, "a great one", text(1, 3))
		w.sure(t, "a great one")
		if r.segments > 2 && (w.l.Count() != 3 || w.l.Segment() != 2) {
			t.Errorf("%v: %d texts in %d segments", r, w.l.Count(), w.l.Segment()+1)
		}
	}
}

// checkOpened opens a region whose log has these texts and this end, with each
// limit of calls, and holds what there is afterwards.
func checkOpened(t *testing.T, what string, r region, b []byte, texts [][]byte, segment, end int) {
	t.Helper()
	image := within(r, b)
	want := bytes.Clone(b)
	clear(want[end:])
	edge := end / sector
	writes := pends(r.from+edge, want[edge*sector:])
	calls := 3
	if len(writes) == 0 {
		calls = 2
	}
	for limit := -1; limit <= calls; limit++ {
		said := fmt.Sprintf("%s, %v, with a limit of %d", what, r, limit)
		d := loaded(t, image)
		d.Limit(limit)
		switch {
		case limit == 0:
			checkNotOpened(t, said, d, r, 0, api.ErrPower)
			checkDisk(t, said, d, image)
		case limit > 0 && limit < calls-1:
			checkNotOpened(t, said, d, r, len(texts), api.ErrPower)
			checkDisk(t, said, d, image)
		case limit == calls-1:
			checkNotOpened(t, said, d, r, len(texts), api.ErrPower)
			checkDisk(t, said, d, image, writes...)
		default:
			checkLog(t, said, open(t, said, d, r), texts, len(texts), segment)
			checkDisk(t, said, d, within(r, want))
		}
		if n := left(d); n != 0 && limit >= 0 {
			t.Errorf("%s: %d calls are left", said, n)
		}
	}
	d := loaded(t, image)
	for _, again := range []string{"once", "twice", "three times"} {
		checkLog(t, what+", "+again, open(t, what, d, r), texts, len(texts), segment)
		checkDisk(t, what+", "+again, d, within(r, want))
	}
}

// checkBuilt opens a region of segments with these texts, all of them sealed
// but the last one, with zeros and with something else behind the end.
func checkBuilt(t *testing.T, what string, r region, sealed bool, lists ...[][]byte) {
	t.Helper()
	b, end := built(r, sealed, lists...)
	texts := slices.Concat(lists...)
	checkOpened(t, what, r, b, texts, len(lists)-1, end)
	for _, behind := range [][]byte{noise(len(b) - end), bytes.Repeat([]byte{255}, len(b)-end), bytes.Repeat([]byte{1}, len(b)-end)} {
		checkOpened(t, what+", and noise", r, join(b[:end], behind), texts, len(lists)-1, end)
	}
	if end < len(b) {
		checkOpened(t, what+", and one octet", r, changed(b, end, 1), texts, len(lists)-1, end)
		checkOpened(t, what+", and one octet at last", r, changed(b, len(b)-1, 1), texts, len(lists)-1, end)
	}
}

// regions are some of different sizes.
func regions() []region {
	return []region{{0, 1, 2}, {1, 2, 2}, {0, 3, 2}, {2, 3, 3}, {1, 3, 4}, {5, 4, 7}, {1, 9, 2}}
}

// P15.1: a region without a segment 0.
func TestOpenNothing(t *testing.T) {
	for _, r := range regions() {
		n := r.octets()
		checkOpened(t, "zeros", r, make([]byte, n), nil, 0, 0)
		checkOpened(t, "noise", r, noise(n), nil, 0, 0)
		checkOpened(t, "ones", r, bytes.Repeat([]byte{255}, n), nil, 0, 0)
		checkOpened(t, "one octet", r, changed(make([]byte, n), 0, 1), nil, 0, 0)
		checkOpened(t, "one octet at last", r, changed(make([]byte, n), n-1, 1), nil, 0, 0)
		frames := join(frame(chainOf(nil), []byte("hello")), make([]byte, n-45))
		checkOpened(t, "a frame without a header", r, frames, nil, 0, 0)
		footer := join(foot(0, chainOf(nil)), make([]byte, n-footSize))
		checkOpened(t, "a footer without a header", r, footer, nil, 0, 0)
	}
}

// P15.1: one segment, with and without texts.
func TestOpenOne(t *testing.T) {
	for _, r := range regions() {
		checkBuilt(t, "no text", r, false, nil)
		checkBuilt(t, "no text, sealed", r, true, nil)
		checkBuilt(t, "a text", r, false, some(5))
		checkBuilt(t, "a text, sealed", r, true, some(5))
		checkBuilt(t, "a text of one octet", r, false, some(1))
		checkBuilt(t, "a text that just fits", r, false, some(r.size*sector-headSize-frameMore-footSize))
		checkBuilt(t, "a text that just fits, sealed", r, true, some(r.size*sector-headSize-frameMore-footSize))
		if r.size > 2 {
			checkBuilt(t, "some texts", r, false, some(5, 100, 1))
			checkBuilt(t, "some texts, sealed", r, true, some(5, 80, 1))
			checkBuilt(t, "a text up to the end of a sector", r, false, some(88))
			checkBuilt(t, "a footer up to the end of a sector", r, true, some(40))
		}
	}
}

// P15.1: several segments.
func TestOpenSeveral(t *testing.T) {
	checkBuilt(t, "two", region{1, 3, 2}, false, some(40), some(7))
	checkBuilt(t, "two, the last one without texts", region{1, 3, 2}, false, some(40), nil)
	checkBuilt(t, "two, the first one without texts", region{1, 3, 2}, false, nil, some(40))
	checkBuilt(t, "two, both without texts", region{1, 3, 2}, false, nil, nil)
	checkBuilt(t, "two, all sealed", region{1, 2, 2}, true, some(40), some(7))
	checkBuilt(t, "two, all sealed, the last one full", region{1, 2, 2}, true, some(7), some(40))
	checkBuilt(t, "two of three, both sealed", region{1, 3, 2}, true, some(40), some(7))
	checkBuilt(t, "two of three, both sealed, the last one full", region{1, 3, 2}, true, some(7), some(40))
	checkBuilt(t, "three", region{0, 3, 2}, false, some(40), some(7), some(3))
	checkBuilt(t, "three, all sealed", region{0, 3, 2}, true, some(40), some(7), some(3))
	checkBuilt(t, "three, all sealed, without texts", region{0, 3, 2}, true, nil, nil, nil)
	checkBuilt(t, "five", region{2, 7, 4}, false, some(5, 100, 1), some(296), nil, some(1, 1, 1), some(200))
	checkBuilt(t, "five, all sealed", region{2, 7, 4}, true, some(5, 100, 1), some(296), nil, some(1, 1, 1), some(200))
	checkBuilt(t, "great ones", region{3, 3, maxSize}, false, some(65320), some(60000, 5000))
}

// P15.1: as many segments as there may be.
func TestOpenMost(t *testing.T) {
	var lists [][][]byte
	for n := range maxParts {
		lists = append(lists, [][]byte{text(1+n%40, n)})
	}
	r := region{1, maxParts, 2}
	checkBuilt(t, "all but one", r, false, lists[:maxParts-1]...)
	b, end := built(r, false, lists...)
	checkOpened(t, "all", r, b, slices.Concat(lists...), maxParts-1, end)
	b, end = built(r, true, lists...)
	checkOpened(t, "all, sealed", r, b, slices.Concat(lists...), maxParts-1, end)
	fewer := region{1, 100, 2}
	checkOpened(t, "fewer of them", fewer, b[:fewer.octets()], slices.Concat(lists[:100]...), 99, 99*2*sector+headSize+frameMore+1+99%40+footSize)
}

// P15.1: the texts end with the first segment that isn't sealed, whatever is in
// those behind it.
func TestOpenNotSealed(t *testing.T) {
	r := region{1, 4, 3}
	lists := [][][]byte{some(5, 60), some(9), some(3), some(1, 2)}
	b, _ := built(r, false, lists...)
	for n := range 3 {
		end := n*3*sector + headSize
		for _, x := range lists[n] {
			end += frameMore + len(x)
		}
		open := bytes.Clone(b)
		clear(open[end:][:footSize])
		checkOpened(t, "a footer less", r, open, slices.Concat(lists[:n+1]...), n, end)
		for at := range footSize {
			checkOpened(t, "a damaged footer", r, changed(b, end+at, 1<<(at%8)), slices.Concat(lists[:n+1]...), n, end)
		}
	}
}

// P15.1: the texts end ahead of the first segment that has no contents, since
// its header is damaged or another one's.
func TestOpenNoContents(t *testing.T) {
	r := region{1, 4, 3}
	lists := [][][]byte{some(5, 60), some(9), some(3), some(1, 2)}
	b, _ := built(r, false, lists...)
	for n := range 4 {
		all := slices.Concat(lists[:n]...)
		_, end := built(r, true, lists[:n]...)
		at := n * 3 * sector
		chain := chainOf(all)
		checkHead := func(what string, header []byte) {
			t.Helper()
			checkOpened(t, what, r, join(b[:at], header, b[at+sector:]), all, max(n-1, 0), end)
		}
		checkHead("zeros for a header", make([]byte, sector))
		checkHead("noise for a header", noise(sector))
		checkHead("another number", head(n+1, len(all), chain))
		checkHead("number 3", head(3-3*(n/3), len(all), chain))
		checkHead("another count", head(n, len(all)+1, chain))
		checkHead("another count's first bit", head(n, len(all)+math.MinInt, chain))
		checkHead("another chain", head(n, len(all), changed(chain, 31, 1)))
		checkHead("the digest of nothing for a chain", head(n, len(all), digest(nil, nil)))
		for bit := range 8 * sector {
			checkHead("a damaged header", changed(b[at:][:sector], bit/8, 1<<(bit%8)))
		}
		behind := join(b[:at], make([]byte, sector), b[at:len(b)-sector])
		checkOpened(t, "a segment that begins a sector later", r, behind, all, max(n-1, 0), end)
	}
}

// P15.1: the texts end ahead of a damaged frame, and so does the log: what is
// behind it is cleared, with the segments that follow.
func TestOpenDamagedFrames(t *testing.T) {
	r := region{2, 3, 4}
	lists := [][][]byte{some(5, 60, 7), some(9, 1, 100), some(3, 4)}
	b, _ := built(r, false, lists...)
	all := slices.Concat(lists...)
	count := 0
	for n, texts := range lists {
		at := n*4*sector + headSize
		for _, x := range texts {
			for k := range frameMore + len(x) {
				checkOpened(t, "a damaged frame", r, changed(b, at+k, 1<<(k%8)), all[:count], n, at)
			}
			cut := bytes.Clone(b)
			clear(cut[at:])
			checkOpened(t, "a frame less", r, cut, all[:count], n, at)
			other := bytes.Clone(b)
			copy(other[at:], frame(digest(chainOf(all[:count]), nil), x))
			checkOpened(t, "another chain's frame", r, other, all[:count], n, at)
			at += frameMore + len(x)
			count++
		}
	}
}

// P15.1: a segment whose frames leave no space for a footer; there may be such
// octets on a disk, though no log leaves them there.
func TestOpenCrammed(t *testing.T) {
	for _, r := range []region{{1, 1, 2}, {1, 3, 2}, {0, 2, 3}} {
		space := r.size*sector - headSize
		for used := space - footSize - 1; used <= space; used++ {
			checkBuilt(t, "one text", r, false, some(used-frameMore))
			if second := used - 2*frameMore - 1; second > 0 {
				checkBuilt(t, "two texts", r, false, some(1, second))
			}
			if r.segments > 1 {
				checkBuilt(t, "in the second segment", r, false, some(2), some(used-frameMore))
			}
		}
	}
	checkBuilt(t, "all of the last one is full", region{1, 3, 2}, false, some(2), some(40), some(88))
}

// P15.1: the same octets in regions of other sizes, and beginning elsewhere.
func TestOpenOtherRegions(t *testing.T) {
	r := region{2, 4, 3}
	b, _ := built(r, false, some(5, 60), some(9), some(3), some(1, 2))
	image := within(r, b)
	for from := range 8 {
		for segments := range 8 {
			for size := range 12 {
				w := twins(t, image)
				w.open(t, "another region", region{from, segments, size})
			}
		}
	}
	w := twins(t, image)
	for _, segments := range []int{4, 3, 4, 2, 1, 4} {
		w.open(t, "another number of segments", region{2, segments, 3})
	}
	checkLog(t, "other numbers of segments", w.l, slices.Concat(some(5, 60), some(9), some(3), some(1, 2)), 6, 3)
}

// P15.1: Open reads pending writes, too, and makes them durable.
func TestOpenPending(t *testing.T) {
	r := region{1, 2, 3}
	b, end := built(r, false, some(5, 60), some(9))
	for from := range 6 {
		image := within(r, make([]byte, r.octets()))
		d := loaded(t, image)
		for at := from; at < 6; at++ {
			put(t, d, 1+at, b[at*sector:][:sector])
		}
		for at := range from {
			put(t, d, 1+at, b[at*sector:][:sector])
		}
		put(t, d, 0, noise(2 * sector)[sector:])
		put(t, d, 8, make([]byte, sector))
		want := within(r, b)
		copy(want, noise(2 * sector)[sector:])
		clear(want[8*sector:][:sector])
		checkLog(t, "pending", open(t, "pending", d, r), slices.Concat(some(5, 60), some(9)), 3, 1)
		checkDisk(t, "pending", d, want)
		d.Crash()
		checkDisk(t, "pending, and a crash", d, want)
	}
	d := loaded(t, within(r, b))
	put(t, d, 1, make([]byte, sector))
	d.Limit(2)
	checkNotOpened(t, "a pending header", d, r, 0, api.ErrPower)
	checkDisk(t, "a pending header", d, within(r, b), slices.Concat(pends(1, make([]byte, sector)), pends(1, make([]byte, r.octets())))...)
	d.Crash()
	checkLog(t, "lost", open(t, "lost", d, r), slices.Concat(some(5, 60), some(9)), 3, 1)
	checkDisk(t, "lost", d, within(r, join(b[:end], make([]byte, len(b)-end))))
}

// P15.1: any octets in a region.
func TestOpenAny(t *testing.T) {
	r := rand.New(rand.NewSource(1))
	for range 3000 {
		w := twins(t, anyImage(r))
		w.limit(r.Intn(9) - 5)
		w.open(t, "any", anyRegion(r))
		if t.Failed() {
			return
		}
	}
}

// imageSectors is how many sectors the disks of anyImage have.
const imageSectors = 20

// anyRegion is a region that is more often than not on a disk of anyImage.
func anyRegion(r *rand.Rand) region {
	return region{r.Intn(4), 1 + r.Intn(5), 2 + r.Intn(4) - r.Intn(20)/19*3}
}

// anyImage is a disk's, most of the time with a log in it, damaged or not.
func anyImage(r *rand.Rand) []byte {
	image := noise(imageSectors * sector)
	if r.Intn(4) == 0 {
		clear(image)
	}
	at := region{r.Intn(4), 1 + r.Intn(5), 2 + r.Intn(4)}
	if at.from+at.segments*at.size > imageSectors {
		return image
	}
	var lists [][][]byte
	for range r.Intn(at.segments + 1) {
		lists = append(lists, anyTexts(r, at.size*sector-headSize))
	}
	b, end := built(at, r.Intn(3) > 0, lists...)
	if r.Intn(2) == 0 {
		copy(b[end:], noise(len(b)-end))
	}
	for range r.Intn(3) * r.Intn(2) {
		b = changed(b, r.Intn(len(b)), byte(1+r.Intn(255)))
	}
	copy(image[at.from*sector:], b)
	return image
}

// anyTexts are texts for a segment with so many octets for frames and a footer.
func anyTexts(r *rand.Rand, space int) [][]byte {
	var out [][]byte
	space -= footSize
	for space > frameMore && r.Intn(4) > 0 {
		n := 1 + r.Intn(space-frameMore)
		if r.Intn(2) == 0 {
			n = 1 + r.Intn(min(space-frameMore, 10))
		}
		out = append(out, text(n, r.Intn(200)))
		space -= frameMore + n
	}
	return out
}

// checkNotAppended appends what is not to be appended, and sees that the log and
// the disk are as they were, and that no call of the disk was made.
func checkNotAppended(t *testing.T, what string, w *twin, b []byte, x api.Errno) {
	t.Helper()
	texts, sure, segment := w.l.Texts(), w.l.Sure(), w.l.Segment()
	all, count := w.d.All(), len(w.m.texts)
	err := w.l.Append(b)
	checkFault(t, fmt.Sprintf("%s: Append of %d octets", what, len(b)), err, count, x)
	checkLog(t, what, w.l, texts, sure, segment)
	if !same(w.d.All(), all) {
		t.Errorf("%s: the disk has something else", what)
	}
	if got := w.m.append(b); got != x {
		t.Errorf("%s: the model has %v for %d octets, not %v", what, got, len(b), x)
	}
	w.check(t, what)
}

// none are no octets, in each way there is of it.
func none() [][]byte {
	return [][]byte{nil, {}, make([]byte, 0, 300), roomy(nil), text(40, 0)[:0]}
}

// tooLong are texts that fit into no segment of a size.
func tooLong(size int) [][]byte {
	most := size*sector - headSize - frameMore - footSize
	out := none()
	for _, n := range []int{most + 1, most + 2, most + frameMore, most + footSize, most + frameMore + footSize, most + headSize, size * sector, size*sector + 1, 65321, 65535, 65536, 65537, 131072, 1 << 17} {
		if n > most {
			out = append(out, text(n, 0))
		}
	}
	return out
}

// P15.2: no octets, and more than fit into a segment without texts, are too
// long at any time: in a new log, in one with texts, in a full one.
func TestAppendTooLong(t *testing.T) {
	for _, r := range append(regions(), region{0, 1, 3}, region{1, 2, 511}, region{1, 2, maxSize}) {
		w := opened(t, "too long", r, make([]byte, r.octets()))
		most := r.size*sector - headSize - frameMore - footSize
		check := func(what string) {
			t.Helper()
			for _, b := range tooLong(r.size) {
				checkNotAppended(t, what, w, b, api.ErrLong)
			}
		}
		check("no text")
		w.add(t, "one", text(5, 0))
		check("one text")
		w.sure(t, "one")
		check("one text, flushed")
		for range r.segments - 1 {
			w.add(t, "the longest text", text(most, 1))
			check("the longest text")
		}
		for w.append(t, "another one", text(1, 2)) == api.OK {
		}
		check("full")
		checkNotAppended(t, "full", w, text(most, 1), api.ErrFull)
		checkNotAppended(t, "full", w, text(1, 1), api.ErrFull)
	}
}

// P15.2: the longest text that fits into a segment without texts, and one octet
// more, as the first text and behind others.
func TestAppendLongest(t *testing.T) {
	for size := 2; size <= maxSize; size += 1 + size/3 {
		for _, size := range []int{size, maxSize - size + 2} {
			r := region{1, 3, size}
			most := size*sector - headSize - frameMore - footSize
			w := opened(t, "the longest", r, noise(r.octets()))
			for n := range 3 {
				checkNotAppended(t, "an octet more", w, text(most+1, n), api.ErrLong)
				w.add(t, "the longest", text(most, n))
				checkLog(t, "the longest", w.l, some([]int{most, most, most}[:n+1]...), 0, n)
			}
			checkNotAppended(t, "an octet more", w, text(most+1, 3), api.ErrLong)
			checkNotAppended(t, "no segment is left", w, text(most, 3), api.ErrFull)
			checkNotAppended(t, "no segment is left", w, text(1, 3), api.ErrFull)
			w.sure(t, "the longest")
			want, _ := built(r, false, some(most), [][]byte{text(most, 1)}, [][]byte{text(most, 2)})
			checkDisk(t, "the longest", w.d, within(r, want))
			w.open(t, "the longest", r)
		}
	}
}

// P15.2: a text that just fits into what is left of a segment stays in it; one
// with an octet more begins the next segment, or is refused in the last one.
func TestAppendIntoWhatIsLeft(t *testing.T) {
	for _, size := range []int{3, 4, 7} {
		for first := 1; first <= size*sector-headSize-2*frameMore-footSize-1; first++ {
			r := region{2, 2, size}
			fits := size*sector - headSize - 2*frameMore - footSize - first
			a, b := text(first, 1), text(fits, 2)
			more := text(fits+1, 3)

			w := opened(t, "it fits", r, make([]byte, r.octets()))
			w.add(t, "it fits", a, b)
			checkLog(t, "it fits", w.l, [][]byte{a, b}, 0, 0)
			w.add(t, "an octet in the next segment", []byte{1})
			checkLog(t, "an octet in the next segment", w.l, [][]byte{a, b, {1}}, 0, 1)
			w.sure(t, "it fits")
			want, _ := built(r, false, [][]byte{a, b}, [][]byte{{1}})
			checkDisk(t, "it fits", w.d, within(r, want))

			w = opened(t, "an octet more", r, make([]byte, r.octets()))
			w.add(t, "an octet more", a, more)
			checkLog(t, "an octet more", w.l, [][]byte{a, more}, 0, 1)
			w.sure(t, "an octet more")
			want, _ = built(r, false, [][]byte{a}, [][]byte{more})
			checkDisk(t, "an octet more", w.d, within(r, want))

			r.segments = 1
			w = opened(t, "in the last segment", r, make([]byte, r.octets()))
			w.add(t, "in the last segment", a)
			checkNotAppended(t, "in the last segment", w, more, api.ErrFull)
			w.add(t, "in the last segment", b)
			checkNotAppended(t, "full", w, []byte{1}, api.ErrFull)
			w.sure(t, "in the last segment")
			want, _ = built(r, false, [][]byte{a, b})
			checkDisk(t, "in the last segment", w.d, within(r, want))
		}
	}
}

// P15.2: what doesn't fit into the last segment doesn't keep what does from
// being appended afterwards.
func TestAppendAfterFull(t *testing.T) {
	r := region{1, 2, 4}
	w := opened(t, "full", r, make([]byte, r.octets()))
	w.add(t, "the first segment", text(200, 0))
	w.add(t, "the second one", text(100, 1))
	for n := 296; n > 156; n-- {
		checkNotAppended(t, "full", w, text(n, 2), api.ErrFull)
	}
	for _, n := range []int{30, 20, 26} {
		for more := n + 1; more < 296; more++ {
			if left := w.m.space() - frameMore - footSize; more > left {
				checkNotAppended(t, "full", w, text(more, 2), api.ErrFull)
			}
		}
		w.add(t, "what fits", text(n, n))
	}
	checkNotAppended(t, "full", w, text(1, 2), api.ErrFull)
	w.sure(t, "what fits")
	want, _ := built(r, false, some(200), [][]byte{text(100, 1), text(30, 30), text(20, 20), text(26, 26)})
	checkDisk(t, "what fits", w.d, within(r, want))
}

// P15.2: a small text that would fit into an earlier segment doesn't go there.
func TestAppendDoesNotGoBack(t *testing.T) {
	r := region{0, 3, 3}
	w := opened(t, "back", r, make([]byte, r.octets()))
	w.add(t, "back", text(10, 0), text(168, 1), text(1, 2))
	checkLog(t, "back", w.l, some(10, 168, 1), 0, 2)
	w.sure(t, "back")
	want, _ := built(r, false, some(10), [][]byte{text(168, 1)}, [][]byte{text(1, 2)})
	checkDisk(t, "back", w.d, within(r, want))
}

// P15.2: Append behind a sealed last segment begins the next one, or is refused
// if there is none; the sealed one isn't written again.
func TestAppendBehindSealed(t *testing.T) {
	for _, lists := range [][][][]byte{{nil}, {some(5)}, {some(80)}, {some(5, 31, 9)}, {some(5), some(7)}, {some(5), nil}, {some(168), some(168)}, {some(5), some(7, 40)}} {
		r := region{1, 3, 3}
		b, end := built(r, true, lists...)
		count := len(slices.Concat(lists...))
		w := opened(t, "sealed", r, b)
		checkLog(t, "sealed", w.l, slices.Concat(lists...), count, len(lists)-1)
		w.add(t, "sealed", text(1, 9))
		checkLog(t, "sealed", w.l, append(slices.Concat(lists...), text(1, 9)), count, len(lists))
		w.limit(1)
		if x := w.flush(t, "sealed"); x != api.ErrPower {
			t.Errorf("sealed: %v", x)
		}
		next := 3 * len(lists)
		want, _ := built(r, false, append(slices.Clone(lists), [][]byte{text(1, 9)})...)
		checkDisk(t, "sealed", w.d, within(r, b), pends(1+next, want[next*sector:][:2*sector])...)
		if sealed := b[end-footSize : end]; !bytes.Equal(want[end-footSize:end], sealed) {
			t.Errorf("the footer is %x", sealed)
		}

		r.segments = len(lists)
		w = opened(t, "all sealed", r, b[:r.octets()])
		for _, n := range []int{1, 2, 40, 167, 168} {
			checkNotAppended(t, "all sealed", w, text(n, 0), api.ErrFull)
		}
		for _, long := range tooLong(3) {
			checkNotAppended(t, "all sealed", w, long, api.ErrLong)
		}
		w.limit(0)
		w.sure(t, "all sealed")
		checkLog(t, "all sealed", w.l, slices.Concat(lists...), count, len(lists)-1)
	}
}

// P15.2: if the frames of a segment leave no space for its footer, the next
// segment can't be begun, for a text in it would not be read again. The chapter
// doesn't name this; no log leaves such a segment, but a disk may have one.
func TestNoSpaceForFooter(t *testing.T) {
	for _, r := range []region{{1, 1, 2}, {1, 3, 2}, {0, 3, 4}, {2, 4, 3}} {
		space := r.size*sector - headSize
		for rest := range footSize + 1 {
			for _, lists := range [][][][]byte{{some(space - frameMore - rest)}, {some(1), some(space - frameMore - rest)}} {
				if len(lists) > r.segments {
					continue
				}
				b, _ := built(r, false, lists...)
				w := opened(t, "crammed", r, b)
				if rest == footSize && len(lists) < r.segments {
					w.add(t, "space for the footer", text(1, 5))
				} else {
					checkNotAppended(t, "crammed", w, text(1, 5), api.ErrFull)
					checkNotAppended(t, "crammed", w, text(space-frameMore-footSize, 5), api.ErrFull)
					checkNotAppended(t, "crammed", w, nil, api.ErrLong)
				}
				w.sure(t, "crammed")
				texts := w.l.Texts()
				w.open(t, "crammed", r)
				if got := w.l.Texts(); !same(got, texts) {
					t.Errorf("%v, %d octets left: %d texts, not %d", r, rest, len(got), len(texts))
				}
			}
		}
	}
}

// P15.2: Append writes nothing, and makes no call of the disk.
func TestAppendIsInMemoryOnly(t *testing.T) {
	r := region{1, 5, 3}
	image := within(r, make([]byte, r.octets()))
	w := twins(t, image)
	w.open(t, "in memory", r)
	w.limit(2)
	for n := range 30 {
		w.append(t, "in memory", text(1+n, n))
		checkDisk(t, "in memory", w.d, image)
	}
	w.limit(0)
	w.append(t, "without power", text(1, 0))
	checkDisk(t, "without power", w.d, image)
	w.crash()
	checkDisk(t, "a crash", w.d, image)
	w.check(t, "a crash")
	w.open(t, "a crash", r)
	checkLog(t, "a crash", w.l, nil, 0, 0)

	w.limit(7)
	w.append(t, "calls", text(1, 0))
	w.append(t, "calls", nil)
	w.append(t, "calls", text(100, 0))
	w.append(t, "calls", text(169, 0))
	w.checkLeft(t, "calls", 7)
}

// P15.2: which sectors of the region a Flush writes, for texts of these lengths
// that are flushed one by one: those from one number to another one.
func TestFlushWrites(t *testing.T) {
	tests := []struct {
		what    string
		size    int
		lengths []int
		sectors [][2]int
	}{
		{"in a segment", 4, []int{5, 5, 5}, [][2]int{{0, 1}, {1, 1}, {1, 2}}},
		{"up to the end of a sector", 4, []int{88, 1, 5}, [][2]int{{0, 1}, {2, 2}, {2, 2}}},
		{"an octet less", 4, []int{87, 1, 5}, [][2]int{{0, 1}, {1, 2}, {2, 2}}},
		{"an octet more", 4, []int{89, 1, 5}, [][2]int{{0, 2}, {2, 2}, {2, 2}}},
		{"over several sectors", 6, []int{5, 299, 70, 28}, [][2]int{{0, 1}, {1, 3}, {4, 4}, {4, 5}}},
		{"into the next segment", 4, []int{5, 296, 5}, [][2]int{{0, 1}, {1, 7}, {7, 9}}},
		{"into the next segment, from the end of a sector", 4, []int{88, 296, 1}, [][2]int{{0, 1}, {2, 7}, {7, 9}}},
		{"into the next segment, from a full one", 2, []int{40, 40, 40}, [][2]int{{0, 1}, {1, 3}, {3, 5}}},
		{"a footer over two sectors", 4, []int{60, 250, 1}, [][2]int{{0, 1}, {1, 7}, {7, 7}}},
	}
	for _, x := range tests {
		r := region{3, 4, x.size}
		for n, of := range x.sectors {
			w := opened(t, x.what, r, make([]byte, r.octets()))
			for k, length := range x.lengths[:n] {
				w.add(t, x.what, text(length, k))
				w.sure(t, x.what)
			}
			before := w.d.Image()
			w.add(t, x.what, text(x.lengths[n], n))
			from, b := w.m.fresh()
			if from != of[0] || from+len(b)/sector-1 != of[1] {
				t.Errorf("%s: the model's text %d is in the sectors %d to %d", x.what, n, from, from+len(b)/sector-1)
			}
			w.limit(1)
			if x := w.flush(t, "behind the Write"); x != api.ErrPower {
				t.Error(x)
			}
			checkDisk(t, x.what, w.d, before, pends(3+of[0], w.m.b[of[0]*sector:(of[1]+1)*sector])...)
			w.checkLeft(t, x.what, 0)
		}
	}
}

// P15.2: Flush writes what several texts have that are new, in one segment and
// over several ones, by one Write, and flushes the disk.
func TestFlushOfSeveral(t *testing.T) {
	for _, r := range []region{{1, 6, 2}, {0, 4, 3}, {3, 3, 7}, {2, 2, 40}} {
		for sure := range 5 {
			for fresh := 1; fresh <= 5; fresh++ {
				for _, limit := range []int{0, 1, 2, 3, -1} {
					w := opened(t, "several", r, make([]byte, r.octets()))
					for n := range sure {
						w.append(t, "sure", text(5+n*9, n))
					}
					w.sure(t, "sure")
					before := w.d.Image()
					count := w.l.Count()
					for n := range fresh {
						w.append(t, "new", text(40-n*3, n))
					}
					if w.l.Count() == count {
						continue
					}
					checkFlush(t, r, w, before, limit)
				}
			}
		}
	}
}

// checkFlush flushes a log with a limit of calls, of which it needs two, and
// with another pending write on the disk.
func checkFlush(t *testing.T, r region, w *twin, before []byte, limit int) {
	t.Helper()
	what := fmt.Sprintf("%v with a limit of %d", r, limit)
	at := r.from + r.octets()/sector + 1
	put(t, w.d, at, make([]byte, sector))
	put(t, w.other, at, make([]byte, sector))
	pending := pends(at, make([]byte, sector))
	from, b := w.m.fresh()
	texts, sure, segment := w.l.Texts(), w.l.Sure(), w.l.Segment()
	w.limit(limit)
	x := w.flush(t, what)
	switch limit {
	case 0:
		checkDisk(t, what, w.d, before, pending...)
	case 1:
		pending = append(pending, pends(r.from+from, b)...)
		checkDisk(t, what, w.d, before, pending...)
	default:
		copy(before[(r.from+from)*sector:], b)
		clear(before[at*sector:][:sector])
		checkDisk(t, what, w.d, before)
		checkLog(t, what, w.l, texts, len(texts), segment)
		if x != api.OK {
			t.Errorf("%s: %v", what, x)
		}
		w.checkLeft(t, what, map[int]int{2: 0, 3: 1, -1: 100}[limit])
		return
	}
	if x != api.ErrPower {
		t.Errorf("%s: %v", what, x)
	}
	checkLog(t, what, w.l, texts, sure, segment)
	checkDead(t, what, w)
	w.crash()
	checkDead(t, what+", crashed", w)
}

// checkDead sees that a log is dead, and that it makes no call of its disk.
func checkDead(t *testing.T, what string, w *twin) {
	t.Helper()
	for _, limit := range []int{5, 0, -1} {
		w.limit(limit)
		size := w.m.size
		for _, b := range append(tooLong(size), text(1, 0), text(40, 0), text(size*sector-headSize-frameMore-footSize, 0)) {
			checkNotAppended(t, what+", dead", w, b, api.ErrPower)
		}
		for range 2 {
			if x := w.flush(t, what+", dead"); x != api.ErrPower {
				t.Errorf("%s: %v of a dead log", what, x)
			}
		}
		w.checkLeft(t, what+", dead", map[int]int{5: 5, 0: 0, -1: 100}[limit])
	}
}

// P15.2: Flush does nothing if nothing is new, whatever the disk does.
func TestFlushNothing(t *testing.T) {
	r := region{1, 3, 3}
	for _, lists := range [][][][]byte{nil, {nil}, {some(5)}, {some(5), some(7)}, {some(5), some(7, 31), some(1)}} {
		for _, sealed := range []bool{false, true} {
			b, _ := built(r, sealed && lists != nil, lists...)
			w := opened(t, "nothing", r, b)
			all := slices.Concat(lists...)
			put(t, w.d, 1, noise(sector))
			put(t, w.other, 1, noise(sector))
			for _, limit := range []int{0, 1, 2} {
				w.limit(limit)
				for range 3 {
					w.sure(t, "nothing new")
					checkDisk(t, "nothing new", w.d, within(r, b), pends(1, noise(sector))...)
					checkLog(t, "nothing new", w.l, all, len(all), max(0, len(lists)-1))
				}
				w.checkLeft(t, "nothing new", limit)
			}
			w.crash()
			if len(lists) == 3 {
				continue
			}
			w.add(t, "a text", text(9, 9))
			w.sure(t, "a text")
			w.limit(0)
			w.sure(t, "nothing new behind a Flush")
			checkNotAppended(t, "nothing new behind a Flush", w, nil, api.ErrLong)
			w.sure(t, "nothing new behind an error")
			w.checkLeft(t, "nothing new", 0)
			w.add(t, "new without power", text(9, 9))
			if x := w.flush(t, "new without power"); x != api.ErrPower {
				t.Error(x)
			}
			checkDead(t, "without power", w)
		}
	}
}

// P15.2: a Flush writes the octets ahead of the new ones in their sector as the
// log has them, whatever others wrote to the disk meanwhile.
func TestFlushOverOthers(t *testing.T) {
	r := region{1, 2, 3}
	d := loaded(t, within(r, make([]byte, r.octets())))
	l := open(t, "others", d, r)
	add(t, "others", l, text(5, 0))
	flush(t, "others", l)
	put(t, d, 2, noise(sector))
	add(t, "others", l, text(7, 1))
	flush(t, "others", l)
	want, _ := built(r, false, some(5, 7))
	checkDisk(t, "others", d, within(r, want))
}

// P15.2, P15.3: what a log tells after each call, step by step.
func TestSteps(t *testing.T) {
	r := region{1, 3, 4}
	d := loaded(t, within(r, noise(r.octets())))
	l := open(t, "new", d, r)
	checkLog(t, "new", l, nil, 0, 0)
	if !bytes.Equal(l.Chain(), make([]byte, 32)) || len(l.Texts()) != 0 {
		t.Errorf("%x, %x", l.Chain(), l.Texts())
	}
	add(t, "one", l, []byte("a"))
	checkLog(t, "one", l, [][]byte{[]byte("a")}, 0, 0)
	flush(t, "one", l)
	checkLog(t, "one, flushed", l, [][]byte{[]byte("a")}, 1, 0)
	add(t, "two", l, []byte("a"))
	checkLog(t, "two", l, [][]byte{[]byte("a"), []byte("a")}, 1, 0)
	add(t, "three", l, text(296, 0))
	checkLog(t, "three", l, [][]byte{[]byte("a"), []byte("a"), text(296, 0)}, 1, 1)
	checkFault(t, "too long", l.Append(text(297, 0)), 3, api.ErrLong)
	add(t, "four", l, text(1, 1))
	checkLog(t, "four", l, [][]byte{[]byte("a"), []byte("a"), text(296, 0), text(1, 1)}, 1, 2)
	checkFault(t, "full", l.Append(text(256, 0)), 4, api.ErrFull)
	flush(t, "four", l)
	checkLog(t, "four, flushed", l, [][]byte{[]byte("a"), []byte("a"), text(296, 0), text(1, 1)}, 4, 2)
	d.Limit(0)
	flush(t, "nothing new", l)
	add(t, "five", l, text(2, 2))
	checkFault(t, "no power", l.Flush(), 5, api.ErrPower)
	five := [][]byte{[]byte("a"), []byte("a"), text(296, 0), text(1, 1), text(2, 2)}
	checkLog(t, "dead", l, five, 4, 2)
	d.Limit(-1)
	checkFault(t, "dead", l.Append(text(1, 0)), 5, api.ErrPower)
	checkFault(t, "dead", l.Append(nil), 5, api.ErrPower)
	checkFault(t, "dead", l.Append(text(maxText+1, 0)), 5, api.ErrPower)
	checkFault(t, "dead", l.Flush(), 5, api.ErrPower)
	checkLog(t, "dead", l, five, 4, 2)
	checkLog(t, "anew", open(t, "anew", d, r), five[:4], 4, 2)
	checkLog(t, "dead, beside a new log", l, five, 4, 2)
	checkFault(t, "dead, beside a new log", l.Flush(), 5, api.ErrPower)
}

// P15.3: a log without texts has the first chain, and segment 0, whether that
// has been begun or not.
func TestTellsNothing(t *testing.T) {
	r := region{0, 2, 2}
	for _, lists := range [][][][]byte{nil, {nil}, {nil, nil}} {
		b, _ := built(r, false, lists...)
		l := open(t, "nothing", loaded(t, b), r)
		checkLog(t, "nothing", l, nil, 0, max(0, len(lists)-1))
		if !bytes.Equal(l.Chain(), make([]byte, 32)) {
			t.Errorf("the chain is %x", l.Chain())
		}
	}
}

// P15.3: texts that are the same, and many.
func TestManyTexts(t *testing.T) {
	r := region{1, 128, 256}
	d := loaded(t, make([]byte, (r.octets()/sector+1)*sector))
	l := open(t, "many", d, r)
	var texts [][]byte
	segment, used := 0, headSize
	for n := range 40000 {
		b := text(1+n%50, n%3)
		texts = append(texts, b)
		if used+frameMore+len(b)+footSize > r.size*sector {
			segment, used = segment+1, headSize
		}
		used += frameMore + len(b)
		if err := l.Append(b); err != nil {
			t.Fatal(n, err)
		}
		if n%1000 == 7 {
			flush(t, "many", l)
		}
	}
	checkLog(t, "many", l, texts, 39008, segment)
	flush(t, "many", l)
	checkLog(t, "many", l, texts, 40000, segment)
	checkLog(t, "many", open(t, "many", d, r), texts, 40000, segment)
}

// P15.1 to P15.3: two logs in regions that touch each other don't disturb each
// other, but a Flush of the one makes durable what the other one wrote.
func TestTwoLogs(t *testing.T) {
	d := loaded(t, noise(14*sector))
	first, second := region{1, 3, 2}, region{7, 2, 3}
	a, b := open(t, "first", d, first), open(t, "second", d, second)
	for n := range 3 {
		add(t, "first", a, text(40, n))
		add(t, "second", b, text(60, 10+n))
		if n > 0 {
			flush(t, "first", a)
			flush(t, "second", b)
		}
	}
	one, _ := built(first, false, some(40), [][]byte{text(40, 1)}, [][]byte{text(40, 2)})
	other, _ := built(second, false, [][]byte{text(60, 10), text(60, 11)}, [][]byte{text(60, 12)})
	want := noise(14 * sector)
	copy(want[sector:], join(one, other))
	checkDisk(t, "both", d, want)
	checkLog(t, "first", open(t, "first", d, first), some(40, 40, 40), 3, 2)
	checkLog(t, "second", open(t, "second", d, second), [][]byte{text(60, 10), text(60, 11), text(60, 12)}, 3, 1)

	add(t, "second", b, text(7, 3))
	d.Limit(1)
	checkFault(t, "second", b.Flush(), 4, api.ErrPower)
	d.Limit(-1)
	open(t, "first", d, first)
	if d.Waiting() != 0 {
		t.Errorf("%d writes are waiting", d.Waiting())
	}
	d.Crash()
	checkLog(t, "second", open(t, "second", d, second), [][]byte{text(60, 10), text(60, 11), text(60, 12), text(7, 3)}, 4, 1)
}

// choices are all ways to choose some of n writes, in any order.
func choices(n int) [][]int {
	out := [][]int{nil}
	for from := 0; from < len(out); from++ {
		for k := range n {
			if !slices.Contains(out[from], k) {
				out = append(out, append(slices.Clone(out[from]), k))
			}
		}
	}
	return out
}

// crashed is what a log is before a crash: the texts that are durable and the
// ones that are new, by their lengths.
type crashed struct {
	what       string
	r          region
	sure, news []int
}

// crashes are logs whose Flush writes one sector, and several ones.
func crashes() []crashed {
	return []crashed{
		{"one sector", region{1, 2, 4}, []int{5}, []int{7}},
		{"one sector, several texts", region{1, 2, 6}, []int{90}, []int{1, 2}},
		{"one sector, from its beginning", region{1, 2, 4}, []int{88}, []int{7, 3}},
		{"the first text", region{1, 2, 2}, nil, []int{40}},
		{"the first text, longer", region{1, 2, 4}, nil, []int{296}},
		{"the first texts, over segments", region{0, 3, 2}, nil, []int{40, 30}},
		{"two sectors", region{1, 2, 4}, []int{5}, []int{100}},
		{"two sectors, several texts", region{1, 2, 4}, []int{5}, []int{30, 40, 1}},
		{"a full sector ahead", region{1, 1, 6}, []int{88}, []int{30, 100, 150}},
		{"the next segment", region{1, 2, 2}, []int{40}, []int{40}},
		{"the next segment, with a text in this one", region{2, 2, 3}, []int{5}, []int{60, 168}},
		{"three segments", region{1, 4, 2}, []int{30}, []int{7, 40}},
		{"several texts each", region{1, 3, 3}, []int{5}, []int{30, 40, 9, 10, 11}},
	}
}

// checkCrashed opens a log after a crash, several times. It sees that all of
// the durable texts are there and possibly some of the others, in order, and
// that Append and Flush work.
func checkCrashed(t *testing.T, what string, w *twin, r region, texts [][]byte, sure int) {
	t.Helper()
	if x := w.open(t, what, r); x != api.OK {
		t.Fatalf("%s: %v", what, x)
	}
	n := w.l.Count()
	if n < sure || n > len(texts) {
		t.Fatalf("%s: %d texts of %d, of which %d were durable", what, n, len(texts), sure)
	}
	segment := w.l.Segment()
	checkLog(t, what, w.l, texts[:n], n, segment)
	image := w.d.Image()
	if x := w.open(t, what+", again", r); x != api.OK {
		t.Fatalf("%s: %v", what, x)
	}
	checkLog(t, what+", again", w.l, texts[:n], n, segment)
	checkDisk(t, what+", again", w.d, image)
	more := append(copied(texts[:n]), text(3, 77))
	if x := w.append(t, what, text(3, 77)); x == api.ErrFull {
		return
	}
	w.sure(t, what)
	w.open(t, what, r)
	checkLog(t, what+", and a text more", w.l, more, n+1, w.l.Segment())
}

// P15.4: a crash before, during and after a Flush, with each choice of performed
// writes: the texts that were durable are there and possibly some that were new,
// all of them if all writes were performed, none if none was.
func TestCrashes(t *testing.T) {
	for _, c := range crashes() {
		texts := some(append(slices.Clone(c.sure), c.news...)...)
		for calls := -1; calls <= 2; calls++ {
			for _, keep := range choices(5) {
				w := opened(t, c.what, c.r, noise(c.r.octets()))
				w.add(t, c.what, texts[:len(c.sure)]...)
				w.sure(t, c.what)
				w.add(t, c.what, texts[len(c.sure):]...)
				_, b := w.m.fresh()
				writes := len(b) / sector
				if len(keep) > 0 && slices.Max(keep) >= writes {
					continue
				}
				w.limit(calls)
				if calls >= 0 {
					w.flush(t, c.what)
				}
				w.crash(keep...)
				checkAfterCrash(t, fmt.Sprintf("%s, %d calls, %v", c.what, calls, keep), w, c, calls, len(keep) == writes)
			}
		}
	}
}

// checkAfterCrash holds what is there after a crash during a Flush that made
// some calls.
func checkAfterCrash(t *testing.T, what string, w *twin, c crashed, calls int, all bool) {
	t.Helper()
	texts := some(append(slices.Clone(c.sure), c.news...)...)
	sure := len(c.sure)
	if calls == 2 || calls == 1 && all {
		sure = len(texts)
	}
	if calls < 1 {
		texts = texts[:sure]
	}
	w.check(t, what)
	checkCrashed(t, what, w, c.r, texts, sure)
}

// P15.4: of several new sectors, those that are performed bring back each text
// whose sectors, and whose predecessors' ones, are all there.
func TestCrashBringsBack(t *testing.T) {
	r := region{0, 1, 7}
	news := some(88, 88, 88, 88)
	for mask := range 1 << 6 {
		w := opened(t, "back", r, make([]byte, r.octets()))
		w.add(t, "back", news...)
		w.limit(1)
		w.flush(t, "back")
		var keep []int
		count := 0
		for k := 5; k >= 0; k-- {
			if mask>>k&1 == 1 {
				keep = append(keep, k)
			}
		}
		for count < 4 && mask>>(count+1)&1 == 1 && mask&1 == 1 {
			count++
		}
		w.crash(keep...)
		w.open(t, "back", r)
		checkLog(t, fmt.Sprintf("back: %v", keep), w.l, news[:count], count, 0)
	}
}

// P15.4: a crash during Open, while what is behind the end is cleared, with each
// choice of performed writes, changes no text.
func TestCrashesOfOpen(t *testing.T) {
	r := region{1, 2, 3}
	for _, lists := range [][][][]byte{nil, {nil}, {some(5)}, {some(5, 50)}, {some(88)}, {some(5), some(7)}} {
		b, end := built(r, false, lists...)
		texts := slices.Concat(lists...)
		damaged := bytes.Clone(b)
		if end > 0 {
			full, _ := built(r, false, lists[:len(lists)-1]...)
			full, _ = built(r, false, append(slices.Clone(lists[:len(lists)-1]), append(slices.Clone(lists[len(lists)-1]), some(20, 30)...))...)
			damaged = changed(full, end+10, 4)
		} else {
			full, _ := built(r, false, some(5), some(7))
			damaged = changed(full, 10, 4)
		}
		for _, behind := range [][]byte{noise(r.octets()), make([]byte, r.octets()), damaged} {
			image := join(b[:end], behind[end:])
			for limit := range 4 {
				writes := r.octets()/sector - end/sector
				if limit != 2 {
					writes = 1
				}
				for _, keep := range choices(min(writes, 5)) {
					w := twins(t, within(r, image))
					w.limit(limit)
					w.open(t, "a limit", r)
					w.crash(keep...)
					what := fmt.Sprintf("a crash of Open after %d calls, %v", limit, keep)
					checkCrashed(t, what, w, r, texts, len(texts))
				}
			}
		}
	}
}

// P15.4: one crash after the other, each with any choice of performed writes,
// some of them during Open: no durable text is ever lost, none changes.
func TestManyCrashes(t *testing.T) {
	r := rand.New(rand.NewSource(2))
	for range 60 {
		at := region{r.Intn(3), 1 + r.Intn(12), 2 + r.Intn(4)}
		w := opened(t, "crashes", at, noise(at.octets()))
		var sure [][]byte
		for round := range 40 {
			all := sure
			for k := range r.Intn(4) {
				b := text(1+r.Intn(60), 5*round+k)
				if w.append(t, "crashes", b) != api.OK {
					continue
				}
				all = append(slices.Clone(all), b)
				if r.Intn(3) == 0 {
					w.sure(t, "crashes")
					sure = all
				}
			}
			w.limit(r.Intn(3))
			if w.flush(t, "crashes") == api.OK {
				sure = all
			}
			w.crash(r.Perm(w.d.Waiting() + 1)[r.Intn(w.d.Waiting()+1):]...)
			for r.Intn(3) == 0 {
				w.limit(r.Intn(3))
				w.open(t, "without power", at)
				w.crash(r.Perm(w.d.Waiting() + 1)[r.Intn(w.d.Waiting()+1):]...)
			}
			w.open(t, "crashes", at)
			got := w.l.Texts()
			if len(got) < len(sure) || len(got) > len(all) || !same(got, all[:len(got)]) {
				t.Fatalf("%d texts of %d, of which %d were durable", len(got), len(all), len(sure))
			}
			sure = got
		}
	}
}

// P15.4: without a crash, what a Flush has written whose second call failed is
// there when the log is opened again.
func TestOpenAfterDeath(t *testing.T) {
	for _, c := range crashes() {
		texts := some(append(slices.Clone(c.sure), c.news...)...)
		for calls := range 2 {
			w := opened(t, c.what, c.r, make([]byte, c.r.octets()))
			w.add(t, c.what, texts[:len(c.sure)]...)
			w.sure(t, c.what)
			w.add(t, c.what, texts[len(c.sure):]...)
			w.limit(calls)
			w.flush(t, c.what)
			dead := w.l
			w.limit(-1)
			w.open(t, c.what, c.r)
			want := texts
			if calls == 0 {
				want = texts[:len(c.sure)]
			}
			checkLog(t, c.what, w.l, want, len(want), w.l.Segment())
			checkFault(t, c.what, dead.Flush(), len(texts), api.ErrPower)
			w.crash()
			w.open(t, c.what, c.r)
			checkLog(t, c.what+", crashed", w.l, want, len(want), w.l.Segment())
		}
	}
}

// step does one thing to both.
func (w *twin) step(t *testing.T, r *rand.Rand) {
	t.Helper()
	switch r.Intn(16) {
	case 0:
		w.limit(r.Intn(6) - 1)
	case 1:
		w.crash(r.Perm(w.d.Waiting() + 2)[r.Intn(w.d.Waiting()+2):]...)
	case 2, 3, 4:
		if w.m != nil {
			w.flush(t, "any call")
		}
	case 5:
		w.open(t, "any call", anyRegion(r))
	case 6:
		w.limit(-1)
		w.open(t, "any call", anyRegion(r))
	case 7:
		at, b := r.Intn(imageSectors), noise(sector)
		if w.d.Write(at, b) != w.other.Write(at, b) {
			t.Error("the disks have different limits")
		}
	default:
		if w.m != nil {
			n := w.m.size*sector - headSize - frameMore - footSize
			w.append(t, "any call", text(r.Intn(1+max(r.Intn(n+9), 1)), r.Intn(200)))
		}
	}
}

// P15.1 to P15.4: any calls in any order, held against the model.
func TestAnyCalls(t *testing.T) {
	r := rand.New(rand.NewSource(3))
	for range 600 {
		w := twins(t, anyImage(r))
		for range 60 {
			w.step(t, r)
		}
		if t.Failed() {
			return
		}
	}
}

// filled is a log of one disk, with durable texts and new ones.
func filled(t *testing.T, r region, sure, news [][]byte) (*log.Log, *disk.Disk) {
	t.Helper()
	d := loaded(t, within(r, make([]byte, r.octets())))
	l := open(t, "filled", d, r)
	add(t, "filled", l, sure...)
	flush(t, "filled", l)
	add(t, "filled", l, news...)
	return l, d
}

// P15.4: what Texts and Chain return shares no memory with the log, the disk, a
// later result, or another text of the same result.
func TestResultsAreNewMemory(t *testing.T) {
	r := region{1, 3, 4}
	sure, news := some(5, 100), some(9, 200, 5)
	all := slices.Concat(sure, news)
	l, d := filled(t, r, sure, news)
	before := d.Image()
	first, second := l.Texts(), l.Texts()
	chain, other := l.Chain(), l.Chain()
	for _, b := range first {
		spoil(b)
	}
	spoil(chain)
	clear(first[:cap(first)])
	if !same(second, all) || !bytes.Equal(other, chainOf(all)) {
		t.Error("a result changes with another one")
	}
	checkLog(t, "results were changed", l, all, 2, 1)
	for n := range all {
		apart := l.Texts()
		spoil(apart[n])
		for k := range all {
			if k != n && !bytes.Equal(apart[k], all[k]) {
				t.Errorf("text %d changes with text %d", k, n)
			}
		}
		_ = append(apart[n], noise(300)...)
		checkLog(t, "a text was changed", l, all, 2, 1)
	}
	_ = append(l.Texts()[:1], noise(9))
	checkLog(t, "a list was changed", l, all, 2, 1)
	checkDisk(t, "results were changed", d, before)
	flush(t, "results were changed", l)
	want, _ := built(r, false, all[:3], all[3:])
	checkDisk(t, "results were changed", d, within(r, want))
	for _, b := range second {
		spoil(b)
	}
	spoil(other)
	checkDisk(t, "results were changed afterwards", d, within(r, want))
	opened := open(t, "opened", d, r)
	for _, b := range opened.Texts() {
		spoil(b)
	}
	spoil(opened.Chain())
	checkLog(t, "opened, and results changed", opened, all, 5, 1)
	checkDisk(t, "opened, and results changed", d, within(r, want))
	checkLog(t, "opened again", open(t, "opened again", d, r), all, 5, 1)
}

// P15.4: what a log without texts returns can be changed, too.
func TestNothingIsNewMemory(t *testing.T) {
	r := region{1, 2, 2}
	l := open(t, "nothing", loaded(t, within(r, make([]byte, r.octets()))), r)
	spoil(l.Chain())
	none := append(l.Texts(), noise(5))
	spoil(none[0])
	checkLog(t, "nothing", l, nil, 0, 0)
	other := open(t, "another one", loaded(t, within(r, make([]byte, r.octets()))), r)
	checkLog(t, "another one", other, nil, 0, 0)
}

// P15.4: earlier results don't change with later calls.
func TestResultsStay(t *testing.T) {
	r := region{1, 3, 4}
	l, d := filled(t, r, some(5), some(5, 6))
	texts, chain := l.Texts(), l.Chain()
	kept, keptChain := copied(texts), bytes.Clone(chain)
	add(t, "later", l, text(100, 4), text(100, 5))
	flush(t, "later", l)
	add(t, "later", l, text(100, 6))
	d.Limit(0)
	l.Flush()
	d.Crash()
	open(t, "later", d, r)
	put(t, d, 0, noise((r.octets()/sector+1)*sector))
	if !same(texts, kept) || !bytes.Equal(chain, keptChain) {
		t.Error("a result was changed by a later call")
	}
}

// P15.4: a text that is changed after Append changes neither the log nor what is
// flushed.
func TestArgumentsAreNotKept(t *testing.T) {
	r := region{1, 3, 4}
	d := loaded(t, within(r, make([]byte, r.octets())))
	l := open(t, "arguments", d, r)
	texts := some(5, 100, 9, 200, 5)
	for n, b := range texts {
		given := roomy(b)
		add(t, "arguments", l, given)
		spoil(given)
		checkLog(t, "an argument was changed", l, texts[:n+1], 0, l.Segment())
	}
	checkDisk(t, "arguments were changed", d, within(r, make([]byte, r.octets())))
	flush(t, "arguments", l)
	want, _ := built(r, false, texts[:3], texts[3:])
	checkDisk(t, "arguments were changed", d, within(r, want))
	given := text(3, 9)
	add(t, "arguments", l, given)
	d.Limit(0)
	l.Flush()
	spoil(given)
	checkLog(t, "an argument was changed", l, append(copied(texts), text(3, 9)), 5, l.Segment())
}

// P15.4: arguments, and what is behind them, stay as they are, whether they are
// appended or refused.
func TestArgumentsStay(t *testing.T) {
	r := region{1, 2, 3}
	l, d := filled(t, r, some(5), some(9))
	check := func(what string) {
		t.Helper()
		for _, n := range []int{0, 1, 40, 167, 168, 169, 300, 65535, 65536} {
			given := roomy(text(n, 7))
			kept := bytes.Clone(whole(given))
			for range 2 {
				l.Append(given)
				l.Append(given[:n/2])
				l.Append(whole(given))
			}
			l.Flush()
			if !bytes.Equal(whole(given), kept) {
				t.Errorf("%s: a text of %d octets was changed", what, n)
			}
		}
	}
	check("with space")
	check("full")
	d.Limit(0)
	l, d = filled(t, r, some(5), some(9))
	d.Limit(0)
	checkFault(t, "dead", l.Flush(), 2, api.ErrPower)
	check("dead")
}

// P15.4: a log can be given its own texts and chain.
func TestOwnResults(t *testing.T) {
	r := region{1, 9, 9}
	w := opened(t, "own", r, make([]byte, r.octets()))
	w.add(t, "own", text(5, 0))
	for range 4 {
		w.add(t, "own", w.l.Chain())
		w.add(t, "own", w.l.Texts()...)
		w.sure(t, "own")
	}
	w.open(t, "own", r)
	if n := w.l.Count(); n != 46 {
		t.Errorf("%d texts", n)
	}
}

// P15.4: the image that a disk was made of isn't changed, nor one that it gave.
func TestImagesStay(t *testing.T) {
	r := region{1, 2, 3}
	given := within(r, noise(r.octets()))
	kept := bytes.Clone(given)
	d := loaded(t, given)
	before := d.Image()
	l := open(t, "images", d, r)
	after := d.Image()
	add(t, "images", l, some(5, 100)...)
	flush(t, "images", l)
	if !bytes.Equal(given, kept) || !bytes.Equal(before, kept) || !bytes.Equal(after, within(r, make([]byte, r.octets()))) {
		t.Error("an image was changed")
	}
}

// P15.4: logs of different disks don't disturb each other.
func TestLogsAreApart(t *testing.T) {
	r := region{1, 3, 3}
	a, first := filled(t, r, some(5), some(9))
	b, second := filled(t, r, some(60), some(8, 7))
	first.Limit(0)
	checkFault(t, "a dead one", a.Flush(), 2, api.ErrPower)
	flush(t, "another one", b)
	add(t, "another one", b, text(40, 3))
	checkLog(t, "a dead one", a, slices.Concat(some(5), some(9)), 1, 0)
	checkLog(t, "another one", b, append(slices.Concat(some(60), some(8, 7)), text(40, 3)), 3, 1)
	first.Crash()
	checkLog(t, "a dead one", open(t, "a dead one", first, r), some(5), 1, 0)
	checkLog(t, "another one", open(t, "another one", second, r), slices.Concat(some(60), some(8, 7)), 3, 0)
}

func FuzzOpen(f *testing.F) {
	r := region{1, 3, 2}
	for _, lists := range [][][][]byte{nil, {nil}, {some(5)}, {some(40), some(7)}, {some(40), some(7), some(3)}} {
		for _, sealed := range []bool{false, true} {
			b, end := built(r, sealed && lists != nil, lists...)
			f.Add(b, 1, 3, 2, 0)
			f.Add(join(b[:end], noise(len(b)-end)), 1, 3, 2, 1)
		}
	}
	f.Fuzz(func(t *testing.T, b []byte, from, segments, size, limit int) {
		image := append(make([]byte, 0, imageSectors*sector), b[:min(len(b), imageSectors*sector)]...)
		w := twins(t, image[:cap(image)])
		if limit%2 == 0 {
			w = twins(t, within(region{1, 3, 2}, append(bytes.Clone(b), make([]byte, 768)...)[:768]))
		}
		w.limit(limit % 5)
		if w.open(t, "any", region{from, segments, size}) != api.OK {
			return
		}
		w.limit(-1)
		for n := range 5 {
			w.append(t, "any", text(1+n*9, n))
		}
		w.sure(t, "any")
		texts := w.l.Texts()
		w.open(t, "any", region{from, segments, size})
		if !same(w.l.Texts(), texts) {
			t.Errorf("%d texts, not %d", w.l.Count(), len(texts))
		}
	})
}

func FuzzCalls(f *testing.F) {
	for seed := range 20 {
		f.Add(int64(seed), 50)
	}
	f.Fuzz(func(t *testing.T, seed int64, steps int) {
		r := rand.New(rand.NewSource(seed))
		w := twins(t, anyImage(r))
		for range max(0, min(steps, 100)) {
			w.step(t, r)
		}
	})
}
