package keys_test

import (
	"bytes"
	"encoding/binary"
	"encoding/hex"
	"errors"
	"fmt"
	"hash/crc32"
	"maps"
	"math"
	"math/rand"
	"slices"
	"testing"

	"engrosser/api"
	"engrosser/disk"
	"engrosser/fault"
	"engrosser/keys"
)

// What the document has for the limits, and for slots.
const (
	sector   = 128
	maxTime  = 1 << 40
	maxSlots = 64
	maxDisk  = 65536

	keySize  = 32
	slotSize = 2 * sector
)

// key is 32 octets that differ from their neighbours, other ones for another k.
func key(k int) []byte {
	b := make([]byte, keySize)
	for i := range b {
		b[i] = byte(i*7 + i>>3 + 1 + k)
	}
	return b
}

// held is a key of a bucket.
type held struct {
	bucket int
	key    []byte
}

// hold is a bucket with a key that other buckets don't have.
func hold(bucket int) held {
	return held{bucket, key(bucket)}
}

// holds are buckets with their keys.
func holds(buckets ...int) []held {
	var out []held
	for _, bucket := range buckets {
		out = append(out, hold(bucket))
	}
	return out
}

// noise is n octets, none of them zero.
func noise(n int) []byte {
	b := make([]byte, n)
	for i := range b {
		b[i] = byte(1 + (i*7+i>>8)%255)
	}
	return b
}

// changed is a copy of b with another octet at a place.
func changed(b []byte, at int, by byte) []byte {
	b = bytes.Clone(b)
	b[at] ^= by
	return b
}

// join is all of the parts, in new memory.
func join(parts ...[]byte) []byte {
	return bytes.Join(parts, nil)
}

// roomy is a copy of b with something behind it.
func roomy(b []byte) []byte {
	return append(bytes.Clone(b), bytes.Repeat([]byte{0xee}, 300)...)[:len(b)]
}

// whole is b with what is behind it.
func whole(b []byte) []byte {
	return b[:cap(b)]
}

// spoil changes each octet of b and of its spare capacity.
func spoil(b []byte) {
	b = whole(b)
	for i := range b {
		b[i] ^= 255
	}
}

// checked is b and its checksum, by Go's own library.
func checked(b []byte) []byte {
	return binary.BigEndian.AppendUint32(bytes.Clone(b), crc32.ChecksumIEEE(b))
}

// padded is b and zeros, a sector in all.
func padded(b []byte) []byte {
	return append(bytes.Clone(b), make([]byte, sector-len(b))...)
}

// body is what of a key's encoding is ahead of the checksum, by the chapter's
// Terms, with any prefix, any bits of a bucket and a key of any length.
func body(mark string, bucket uint64, key []byte) []byte {
	return append(binary.BigEndian.AppendUint64([]byte(mark), bucket), key...)
}

// encoded is the encoding of a key.
func encoded(h held) []byte {
	return padded(checked(body("engk", uint64(h.bucket), h.key)))
}

// decoded is the key that a sector encodes, field by field of the chapter's Terms.
func decoded(b []byte) (held, bool) {
	be := binary.BigEndian
	bucket := be.Uint64(b[4:])
	ok := len(b) == sector && string(b[:4]) == "engk" && bucket <= maxTime &&
		be.Uint32(b[44:]) == crc32.ChecksumIEEE(b[:44]) && bytes.Equal(b[48:], make([]byte, 80))
	return held{int(bucket), b[12:44]}, ok
}

// empty is the contents of a sector of an empty slot.
func empty() []byte {
	return make([]byte, sector)
}

// slots are the octets of slots: each one's two copies of a key's encoding, or
// zeros for a slot whose key is nil.
func slots(all ...held) []byte {
	var out []byte
	for _, h := range all {
		if h.key == nil {
			out = append(out, make([]byte, slotSize)...)
		} else {
			out = append(out, join(encoded(h), encoded(h))...)
		}
	}
	return out
}

// within is the contents of a disk with some octets from a sector on, and noise
// ahead of it and behind.
func within(from int, b []byte) []byte {
	return join(noise(from*sector), b, noise(3*sector))
}

// loaded is a disk with an image.
func loaded(t *testing.T, image []byte) *disk.Disk {
	t.Helper()
	d, x := disk.Load(image)
	if x != api.OK {
		t.Fatalf("Load of %d octets: %v", len(image), x)
	}
	return d
}

// put writes to a disk.
func put(t *testing.T, d *disk.Disk, at int, b []byte) {
	t.Helper()
	if x := d.Write(at, b); x != api.OK {
		t.Fatalf("Write(%d) = %v", at, x)
	}
}

// pend is a sector's write that is pending.
type pend struct {
	at int
	b  []byte
}

// checkDisk holds all that is on a disk.
func checkDisk(t *testing.T, what string, d *disk.Disk, durable []byte, pending ...pend) {
	t.Helper()
	image := bytes.Clone(durable)
	want := slices.Collect(slices.Chunk(durable, sector))
	for _, p := range pending {
		copy(image[p.at*sector:], p.b)
		want = append(want, p.b)
	}
	if d.Waiting() != len(pending) {
		t.Errorf("%s: %d writes are waiting, not %d", what, d.Waiting(), len(pending))
	}
	if !bytes.Equal(d.Image(), image) || !slices.EqualFunc(d.All(), want, bytes.Equal) {
		t.Errorf("%s: the disk has something else", what)
	}
}

// left is how many calls there are until the power is off, at most 100. It
// takes them.
func left(d *disk.Disk) int {
	for n := range 100 {
		if _, x := d.Read(0, 0); x != api.OK {
			return n
		}
	}
	return 100
}

// checkLeft sees how many calls of a limit, of which some were made, are left.
// It takes them.
func checkLeft(t *testing.T, what string, d *disk.Disk, limit, made int) {
	t.Helper()
	want := max(0, limit-made)
	if limit < 0 {
		want = 100
	}
	if n := left(d); n != want {
		t.Errorf("%s: %d calls are left, not %d", what, n, want)
	}
}

// checkFault holds an error, OK for none, with all that can be asked about it.
func checkFault(t *testing.T, what string, err error, at int, x api.Errno) {
	t.Helper()
	if x == api.OK {
		if err != nil {
			t.Errorf("%s: %v", what, err)
		}
		return
	}
	var f *fault.Fault
	if !errors.As(err, &f) {
		t.Errorf("%s: %v is no fault, want keys %d: %v", what, err, at, x)
		return
	}
	if f.Op != "keys" || f.At != at || f.Err != x {
		t.Errorf("%s: %v, want keys %d: %v", what, err, at, x)
	}
	if !errors.Is(err, x) || fault.Code(err) != x || !slices.Equal(fault.Ops(err), []string{"keys"}) {
		t.Errorf("%s: %v doesn't wrap %v alone", what, err, x)
	}
	if place, ok := fault.Place(err, "keys"); !ok || place != at {
		t.Errorf("%s: the place of %v is %d, %v", what, err, place, ok)
	}
	if want := fault.Wrap("keys", at, x); err.Error() != want.Error() {
		t.Errorf("%s: %q, want %q", what, err, want)
	}
}

// absent are buckets, some of them wrong, that tests don't put keys of.
func absent() []int {
	return []int{-1, -2, 12345, 1<<32 + 12345, 1 << 39, maxTime + 1, 1 << 41, 1 << 62, math.MaxInt, math.MinInt, math.MinInt + 7}
}

// checkTable holds all that a table tells: it has keys in the order of slots.
func checkTable(t *testing.T, what string, k *keys.Table, count int, all ...held) {
	t.Helper()
	if n := k.Slots(); n != count {
		t.Errorf("%s: %d slots, not %d", what, n, count)
	}
	var buckets []int
	for _, h := range all {
		buckets = append(buckets, h.bucket)
		if got, ok := k.Get(h.bucket); !ok || !bytes.Equal(got, h.key) {
			t.Errorf("%s: the key of %d is %x, %v, not %x", what, h.bucket, got, ok, h.key)
		}
	}
	if got := k.Buckets(); !slices.Equal(got, buckets) {
		t.Errorf("%s: the buckets %d, not %d", what, got, buckets)
	}
	for _, bucket := range append(absent(), 0, 1, 2, 3, 4, 5, 6, 7, 8, 9, maxTime) {
		if slices.Contains(buckets, bucket) {
			continue
		}
		if got, ok := k.Get(bucket); ok || len(got) > 0 {
			t.Errorf("%s: the key of %d is %x, %v, though there is none", what, bucket, got, ok)
		}
	}
}

// open opens what has to be a table.
func open(t *testing.T, what string, d *disk.Disk, from, count int) *keys.Table {
	t.Helper()
	k, err := keys.Open(d, from, count)
	if err != nil || k == nil {
		t.Fatalf("%s: Open(%d, %d): %v", what, from, count, err)
	}
	return k
}

// checkNotOpened opens what isn't to be a table.
func checkNotOpened(t *testing.T, what string, d *disk.Disk, from, count, at int, x api.Errno) {
	t.Helper()
	k, err := keys.Open(d, from, count)
	if k != nil {
		t.Errorf("%s: a table beside %v", what, err)
	}
	checkFault(t, fmt.Sprintf("%s: Open(%d, %d)", what, from, count), err, at, x)
}

// add puts keys, for all of which there are slots.
func add(t *testing.T, what string, k *keys.Table, all ...held) {
	t.Helper()
	for _, h := range all {
		if err := k.Put(h.bucket, h.key); err != nil {
			t.Fatalf("%s: Put of %d beside %d: %v", what, h.bucket, k.Buckets(), err)
		}
	}
}

// shred shreds keys that there are.
func shred(t *testing.T, what string, k *keys.Table, buckets ...int) {
	t.Helper()
	for _, bucket := range buckets {
		if err := k.Shred(bucket); err != nil {
			t.Fatalf("%s: Shred of %d of %d: %v", what, bucket, k.Buckets(), err)
		}
	}
}

// The limits are the document's.
func TestLimits(t *testing.T) {
	if api.Sector != sector || api.MaxTime != maxTime || api.MaxSlots != maxSlots || api.MaxDisk != maxDisk {
		t.Error("a limit isn't the document's")
	}
}

// P16.2, P16.3: the chapter's example.
func TestExample(t *testing.T) {
	d := loaded(t, within(1, make([]byte, slotSize)))
	k := open(t, "zeros", d, 1, 1)
	add(t, "zeros", k, hold(7))
	checkDisk(t, "put", d, within(1, slots(hold(7))))
	shred(t, "put", k, 7)
	checkDisk(t, "shredded", d, within(1, make([]byte, slotSize)))
	checkTable(t, "shredded", k, 1)
}

// P16.1, P16.2: encodings that were made by another program (Python).
func TestKnown(t *testing.T) {
	tests := []struct {
		bucket      int
		key, digits string
	}{
		{0, "0000000000000000000000000000000000000000000000000000000000000000", "656e676b00000000000000000000000000000000000000000000000000000000000000000000000000000000e8615ada"},
		{7, "0102030405060708090a0b0c0d0e0f101112131415161718191a1b1c1d1e1f20", "656e676b00000000000000070102030405060708090a0b0c0d0e0f101112131415161718191a1b1c1d1e1f20f650118b"},
		{258, "fffefdfcfbfaf9f8f7f6f5f4f3f2f1f0efeeedecebeae9e8e7e6e5e4e3e2e1e0", "656e676b0000000000000102fffefdfcfbfaf9f8f7f6f5f4f3f2f1f0efeeedecebeae9e8e7e6e5e4e3e2e1e0cf4cff8b"},
		{maxTime - 1, "2c70e12b7a0646f92279f427c7b38e7334d8e5389cff167a1dc30e73f826b683", "656e676b000000ffffffffff2c70e12b7a0646f92279f427c7b38e7334d8e5389cff167a1dc30e73f826b683b646f44a"},
		{maxTime, "ffffffffffffffffffffffffffffffffffffffffffffffffffffffffffffffff", "656e676b0000010000000000ffffffffffffffffffffffffffffffffffffffffffffffffffffffffffffffff838f599e"},
	}
	var all []held
	var want []byte
	for _, x := range tests {
		key, _ := hex.DecodeString(x.key)
		b, _ := hex.DecodeString(x.digits)
		all = append(all, held{x.bucket, key})
		want = append(want, join(padded(b), padded(b))...)
	}
	d := loaded(t, within(2, make([]byte, len(want))))
	k := open(t, "zeros", d, 2, len(tests))
	add(t, "known keys", k, all...)
	checkTable(t, "known keys", k, len(tests), all...)
	checkDisk(t, "known keys", d, within(2, want))
	again := loaded(t, within(3, want))
	checkTable(t, "known octets", open(t, "known octets", again, 3, len(tests)), len(tests), all...)
	checkDisk(t, "known octets", again, within(3, want))
}

// wrongCounts are numbers of slots that no table has.
func wrongCounts() []int {
	return []int{
		0, -1, maxSlots + 1, -2, -maxSlots, 2 * maxSlots, maxSlots + 2, 128, 256, 1 << 16, 1 << 31, 1 << 32, 1<<32 + 1, 1<<32 + maxSlots, -1 << 32,
		1 << 62, 1<<62 + 1, 1 << 61, math.MaxInt, math.MaxInt - 1, math.MinInt, math.MinInt + 1, math.MinInt + 2,
	}
}

// wrongPlaces are sectors that nothing begins at.
func wrongPlaces() []int {
	return []int{-1, -2, -128, maxDisk, maxDisk + 1, 1 << 31, 1 << 32, -1 << 32, 1 << 62, math.MaxInt, math.MaxInt - 1, math.MaxInt - 2, math.MaxInt - 127, math.MaxInt - 128, math.MinInt, math.MinInt + 1, math.MinInt + 128}
}

// P16.1: without a disk, everything else may be wrong, too.
func TestOpenNil(t *testing.T) {
	for _, from := range append(wrongPlaces(), 0, 1, 2) {
		for _, count := range append(wrongCounts(), 1, 2, maxSlots) {
			checkNotOpened(t, "nil", nil, from, count, 0, api.ErrNil)
		}
	}
}

// P16.1: a wrong number of slots is told ahead of a wrong place and of the
// disk's errors, and makes no call of the disk.
func TestOpenArguments(t *testing.T) {
	image := noise(300 * sector)
	for _, limit := range []int{-1, 0, 1} {
		d := loaded(t, image)
		d.Limit(limit)
		for _, from := range append(wrongPlaces(), 0, 1, 2, 299, 300) {
			for _, count := range wrongCounts() {
				checkNotOpened(t, "any slots", d, from, count, 0, api.ErrArg)
			}
		}
		checkDisk(t, "any slots", d, image)
		checkLeft(t, "any slots", d, limit, 0)
	}
}

// P16.1: slots that aren't on the disk are told ahead of the disk's errors, and
// make no call of it.
func TestOpenRange(t *testing.T) {
	for _, sectors := range []int{1, 2, 3, 4, 7, 127, 128, 129} {
		image := noise(sectors * sector)
		for _, limit := range []int{-1, 0, 1} {
			d := loaded(t, image)
			d.Limit(limit)
			for _, count := range []int{1, 2, 3, 63, maxSlots} {
				end := sectors - 2*count // from which the slots would end with the disk
				for _, from := range append(wrongPlaces(), end+1, end+2, sectors-1, sectors, sectors+1, -2*count, 1-2*count, math.MaxInt-2*count, math.MaxInt-2*count+1) {
					if from < 0 || from > end {
						checkNotOpened(t, "not there", d, from, count, 0, api.ErrRange)
					}
				}
			}
			checkDisk(t, "not there", d, image)
			checkLeft(t, "not there", d, limit, 0)
		}
	}
}

// P16.1: slots at each place of a small disk; nothing outside of them changes.
func TestOpenPlaces(t *testing.T) {
	for sectors := 1; sectors <= 9; sectors++ {
		for from := range sectors {
			for count := 1; count <= 5; count++ {
				image := noise(sectors * sector)
				d := loaded(t, image)
				if from+2*count > sectors {
					checkNotOpened(t, "a small disk", d, from, count, 0, api.ErrRange)
					checkDisk(t, "a small disk", d, image)
					continue
				}
				k := open(t, "a small disk", d, from, count)
				checkTable(t, "a small disk", k, count)
				clear(image[from*sector:][:count*slotSize])
				checkDisk(t, "a small disk", d, image)
				for n := range count {
					add(t, "a small disk", k, hold(n+1))
					copy(image[from*sector+n*slotSize:], slots(hold(n+1)))
					checkDisk(t, "a small disk", d, image)
				}
				checkTable(t, "a small disk", k, count, holds(1, 2, 3, 4, 5)[:count]...)
				checkFault(t, "a small disk", k.Put(9, key(9)), 0, api.ErrFull)
			}
		}
	}
}

// P16.1: the greatest disk, and tables of 1 to 64 slots at its ends.
func TestOpenGreat(t *testing.T) {
	image := noise(maxDisk * sector)
	for _, count := range []int{1, 2, 63, maxSlots} {
		d := loaded(t, image)
		end := maxDisk - 2*count
		checkNotOpened(t, "behind the end", d, end+1, count, 0, api.ErrRange)
		for _, from := range []int{0, end} {
			k := open(t, "a great disk", d, from, count)
			var all []held
			for n := range count {
				all = append(all, hold(maxTime-n))
			}
			add(t, "a great disk", k, all...)
			checkTable(t, "a great disk", k, count, all...)
			if b := d.Image()[from*sector:][:count*slotSize]; !bytes.Equal(b, slots(all...)) {
				t.Errorf("%d slots from %d on have something else", count, from)
			}
		}
		checkDisk(t, "a great disk", d, join(d.Image()[:count*slotSize], image[count*slotSize:end*sector], d.Image()[end*sector:]))
	}
}

// checkOpened opens slots with each limit of calls. The table has these keys;
// to have it so, sectors of the disk are written one after another, each of them
// followed by a Flush.
func checkOpened(t *testing.T, what string, from int, b []byte, all []held, writes ...pend) {
	t.Helper()
	count, image := len(b)/slotSize, within(from, b)
	calls := 1 + 2*len(writes)
	for limit := -1; limit <= calls+1; limit++ {
		said := fmt.Sprintf("%s, with a limit of %d", what, limit)
		d := loaded(t, image)
		d.Limit(limit)
		if limit < 0 || limit >= calls {
			checkTable(t, said, open(t, said, d, from, count), count, all...)
			checkDisk(t, said, d, performed(image, writes...))
		} else if limit == 0 {
			checkNotOpened(t, said, d, from, count, 0, api.ErrPower)
			checkDisk(t, said, d, image)
		} else {
			flushed := (limit - 1) / 2
			checkNotOpened(t, said, d, from, count, (writes[flushed].at-from)/2, api.ErrPower)
			checkDisk(t, said, d, performed(image, writes[:flushed]...), writes[flushed:limit/2]...)
		}
		checkLeft(t, said, d, limit, calls)
	}
	checkOpenedAgain(t, what, from, performed(image, writes...), count, all)
}

// checkOpenedAgain opens slots that have been opened already: nothing is written.
func checkOpenedAgain(t *testing.T, what string, from int, image []byte, count int, all []held) {
	t.Helper()
	d := loaded(t, image)
	for _, again := range []string{"twice", "three times"} {
		d.Limit(1)
		checkTable(t, what+", "+again, open(t, what+", "+again, d, from, count), count, all...)
		checkDisk(t, what+", "+again, d, image)
		checkLeft(t, what+", "+again, d, 1, 1)
	}
}

// performed is a disk's contents with writes performed.
func performed(image []byte, writes ...pend) []byte {
	image = bytes.Clone(image)
	for _, w := range writes {
		copy(image[w.at*sector:], w.b)
	}
	return image
}

// P16.1: slots that are whole, or empty, are read by one Read, and nothing is
// written.
func TestOpenWhole(t *testing.T) {
	none := held{}
	for _, all := range [][]held{
		{none}, {hold(7)}, {none, none}, {hold(7), none}, {none, hold(7)}, {hold(7), hold(3)}, {hold(3), hold(7)},
		{hold(0), none, hold(maxTime), none, none, hold(1), hold(maxTime - 1)}, {none, none, none, hold(5)},
		{{0, make([]byte, keySize)}, {1, make([]byte, keySize)}, {2, bytes.Repeat([]byte{255}, keySize)}},
		{{4, key(1)}, {5, key(1)}, {1 << 32, key(1)}, {1<<32 + 4, key(1)}},
		slices.Repeat([]held{none}, maxSlots),
		append(slices.Repeat([]held{none}, maxSlots-1), hold(9)),
	} {
		there := slices.DeleteFunc(slices.Clone(all), func(h held) bool { return h.key == nil })
		for _, from := range []int{0, 1, 2, 5} {
			checkOpened(t, fmt.Sprintf("whole: %d", all), from, slots(all...), there)
		}
	}
	var all []held
	for n := range maxSlots {
		all = append(all, hold(maxTime-n*1000))
	}
	checkOpened(t, "64 keys", 2, slots(all...), all)
}

// noKeys are sectors that encode no key, with what is wrong with each of them.
func noKeys() map[string][]byte {
	own := encoded(hold(7))
	out := map[string][]byte{
		"noise":                        noise(sector),
		"a one":                        changed(empty(), 0, 1),
		"a one at the end":             changed(empty(), sector-1, 1),
		"ones":                         bytes.Repeat([]byte{255}, sector),
		"another prefix":               padded(checked(body("engs", 7, key(7)))),
		"a prefix in capitals":         padded(checked(body("ENGK", 7, key(7)))),
		"no prefix":                    padded(checked(body("", 7, key(7)))),
		"a prefix of zeros":            padded(checked(body("\x00\x00\x00\x00", 7, key(7)))),
		"a prefix turned round":        padded(checked(body("kgne", 7, key(7)))),
		"a longer prefix":              padded(checked(body("engk\x00", 7, key(7)))),
		"a prefix only":                padded([]byte("engk")),
		"no checksum":                  padded(body("engk", 7, key(7))),
		"another checksum":             changed(own, 47, 1),
		"a checksum turned round":      padded(binary.LittleEndian.AppendUint32(body("engk", 7, key(7)), crc32.ChecksumIEEE(body("engk", 7, key(7))))),
		"a checksum of zeros":          padded(body("engk", 7, key(7))),
		"a checksum without prefix":    padded(join(body("engk", 7, key(7)), checked(body("", 7, key(7)))[40:])),
		"a checksum of the sector":     checked(padded(body("engk", 7, key(7)))[:sector-4]),
		"a byte behind":                changed(own, 48, 1),
		"the last byte":                changed(own, sector-1, 128),
		"noise behind":                 join(own[:48], noise(80)),
		"a shorter key":                padded(checked(body("engk", 7, key(7)[:31]))),
		"a longer key":                 padded(checked(body("engk", 7, append(key(7), 1)))),
		"a longer key, of a zero":      padded(checked(body("engk", 7, append(key(7), 0)))),
		"no key":                       padded(checked(body("engk", 7, nil))),
		"another key":                  changed(own, 12, 1),
		"another bucket":               changed(own, 11, 1),
		"a bucket in four bytes":       padded(checked(join([]byte("engk\x00\x00\x00\x07"), key(7)))),
		"a bucket the other way round": padded(checked(join([]byte("engk\x07\x00\x00\x00\x00\x00\x00\x00"), key(7)))),
		"a byte ahead":                 join([]byte{0}, own[:sector-1]),
		"a byte ahead less":            join(own[1:], []byte{0}),
		"a superblock's prefix, right": padded(checked(append([]byte("engs"), make([]byte, 28)...))),
	}
	for _, bucket := range []uint64{maxTime + 1, maxTime + 2, maxTime + 7, 2 * maxTime, 1 << 41, 1<<48 + 7, 1<<56 + 7, 1 << 62, 1<<63 - 1, 1 << 63, 1<<63 + 7, 1<<63 + maxTime, 1<<64 - 1, 1<<64 - 7, 1<<64 - maxTime} {
		out[fmt.Sprintf("the bucket %d", bucket)] = padded(checked(body("engk", bucket, key(7))))
	}
	return out
}

// anything are second copies beside a first one that is a key's: a name, and
// octets that aren't the key's encoding.
func anything() map[string][]byte {
	out := noKeys()
	out["nothing"] = empty()
	out["another bucket's"] = encoded(held{8, key(7)})
	out["another key's"] = encoded(held{7, key(8)})
	out["another one's"] = encoded(hold(3))
	out["an earlier one's"] = encoded(hold(1))
	return out
}

// among are slots with some others ahead and behind: the octets, the keys of
// those ahead and the keys of those behind.
func among(ahead, behind int, slot []byte) ([]byte, []held, []held) {
	before, after := holds(1, 2)[:ahead], holds(4, 5)[:behind]
	return join(slots(before...), slot, slots(after...)), before, after
}

// P16.1: a slot whose first copy is a key's contains it, whatever the second one
// is; that is written then, and flushed.
func TestOpenFirstCopy(t *testing.T) {
	for name, second := range anything() {
		for ahead := range 3 {
			for behind := range 3 {
				from := ahead + behind
				b, before, after := among(ahead, behind, join(encoded(hold(7)), second))
				all := slices.Concat(before, holds(7), after)
				checkOpened(t, "beside the first copy: "+name, from, b, all, pend{from + 2*ahead + 1, encoded(hold(7))})
			}
		}
	}
}

// P16.1: each single change of the second copy is found.
func TestOpenSecondCopyChanged(t *testing.T) {
	for at := range sector {
		for bit := range 8 {
			second := changed(encoded(hold(7)), at, 1<<bit)
			checkOpened(t, fmt.Sprintf("bit %d of %d", bit, at), 1, join(encoded(hold(7)), second), holds(7), pend{2, encoded(hold(7))})
		}
	}
}

// P16.1: a slot whose first copy isn't a key's is shredded, whatever the second
// one is.
func TestOpenNoFirstCopy(t *testing.T) {
	for name, first := range noKeys() {
		for _, second := range [][]byte{empty(), encoded(hold(7)), first, noise(sector), encoded(hold(1))} {
			for ahead := range 3 {
				for behind := range 3 {
					from := ahead + behind
					at := from + 2*ahead
					b, before, after := among(ahead, behind, join(first, second))
					checkOpened(t, "no first copy: "+name, from, b, slices.Concat(before, after), pend{at, empty()}, pend{at + 1, empty()})
				}
			}
		}
	}
}

// P16.1: each single change of the first copy is found.
func TestOpenFirstCopyChanged(t *testing.T) {
	for at := range sector {
		for bit := range 8 {
			first := changed(encoded(hold(7)), at, 1<<bit)
			for _, second := range [][]byte{encoded(hold(7)), empty()} {
				checkOpened(t, fmt.Sprintf("bit %d of %d", bit, at), 1, join(first, second), nil, pend{1, empty()}, pend{2, empty()})
			}
		}
	}
}

// P16.1: of a slot whose first copy is zero only the second one is written, if
// that isn't zero, too.
func TestOpenSecondCopyAlone(t *testing.T) {
	alone := anything()
	delete(alone, "nothing")
	alone["the key's"] = encoded(hold(7))
	for name, second := range alone {
		for ahead := range 3 {
			for behind := range 3 {
				from := ahead + behind
				b, before, after := among(ahead, behind, join(empty(), second))
				checkOpened(t, "the second copy alone: "+name, from, b, slices.Concat(before, after), pend{from + 2*ahead + 1, empty()})
			}
		}
	}
	for at := range sector {
		checkOpened(t, fmt.Sprintf("a one at %d alone", at), 1, join(empty(), changed(empty(), at, 1)), nil, pend{2, empty()})
	}
}

// P16.1: the least and the greatest bucket, and some between, are there; the
// ones beside aren't.
func TestOpenBuckets(t *testing.T) {
	for _, bucket := range []int{0, 1, 2, 255, 256, 65535, 65536, 1<<31 - 1, 1 << 31, 1<<32 - 1, 1 << 32, 1<<32 + 1, maxTime - 1, maxTime} {
		h := hold(bucket)
		checkOpened(t, fmt.Sprintf("bucket %d", bucket), 1, slots(h), []held{h})
		checkOpened(t, fmt.Sprintf("bucket %d, one copy", bucket), 1, join(encoded(h), empty()), []held{h}, pend{2, encoded(h)})
	}
	for _, bucket := range []int{-1, maxTime + 1, math.MinInt, math.MaxInt} {
		checkOpened(t, fmt.Sprintf("bucket %d", bucket), 1, slots(hold(bucket)), nil, pend{1, empty()}, pend{2, empty()})
	}
}

// P16.1: a later slot with a bucket that an earlier one contains is shredded,
// with the same key and with another one, whichever of its copies there are.
func TestOpenSameBucket(t *testing.T) {
	again, other := encoded(hold(7)), encoded(held{7, key(99)})
	zeros := []pend{{5, empty()}, {6, empty()}}
	for _, second := range [][]byte{again, other, empty(), noise(sector), encoded(hold(8))} {
		for _, first := range [][]byte{again, other} {
			checkOpened(t, "the next slot", 3, join(slots(hold(7)), first, second), holds(7), zeros...)
			checkOpened(t, "the next slot, and one behind", 3, join(slots(hold(7)), first, second, slots(hold(8))), holds(7, 8), zeros...)
			checkOpened(t, "behind another one", 1, join(slots(hold(7), hold(3)), first, second), holds(7, 3), zeros...)
			checkOpened(t, "behind an empty one", 1, join(slots(hold(7), held{}), first, second), holds(7), zeros...)
		}
	}
	checkOpened(t, "the earlier one has one copy", 3, join(again, empty(), other, other), holds(7), pend{4, again}, zeros[0], zeros[1])
	checkOpened(t, "the earlier one has the later one's", 3, join(again, other, other, again), holds(7), pend{4, again}, zeros[0], zeros[1])
	checkOpened(t, "the earlier one has none", 3, join(empty(), again, other, again), []held{{7, key(99)}}, pend{4, empty()}, pend{6, other})
	checkOpened(t, "the earlier one is damaged", 3, join(changed(again, 5, 1), again, again, again), holds(7), pend{3, empty()}, pend{4, empty()})
	checkOpened(t, "three times", 3, slots(hold(7), hold(7), hold(7)), holds(7), pend{5, empty()}, pend{6, empty()}, pend{7, empty()}, pend{8, empty()})
	checkOpened(t, "bits that 32 don't have", 3, slots(hold(7), hold(1<<32+7), hold(1<<39+7)), holds(7, 1<<32+7, 1<<39+7))
	checkOpened(t, "bucket 0", 3, slots(hold(0), held{0, key(4)}), holds(0), zeros...)
	checkOpened(t, "bucket 0, behind an empty one", 3, slots(held{}, hold(0)), holds(0))
	checkOpened(t, "the same key of other buckets", 3, slots(held{1, key(4)}, held{2, key(4)}), []held{{1, key(4)}, {2, key(4)}})

	all := slices.Repeat(holds(5), maxSlots)
	var writes []pend
	for at := 5; at < 3+2*maxSlots; at++ {
		writes = append(writes, pend{at, empty()})
	}
	checkOpened(t, "64 times", 3, slots(all...), holds(5), writes...)
}

// P16.1: a table with slots of each kind: they are examined from 0 on.
func TestOpenSeveral(t *testing.T) {
	b := join(
		encoded(hold(7)), empty(),
		empty(), encoded(hold(3)),
		slots(hold(3)),
		slots(hold(7)),
		slots(held{}),
		noise(sector), empty(),
		encoded(hold(8)), encoded(hold(3)),
		empty(), noise(sector),
		slots(hold(0)),
	)
	checkOpened(t, "several", 4, b, holds(7, 3, 8, 0),
		pend{5, encoded(hold(7))}, pend{7, empty()}, pend{10, empty()}, pend{11, empty()}, pend{14, empty()}, pend{15, empty()}, pend{17, encoded(hold(8))}, pend{19, empty()})
	noises := []pend{}
	for at := range 2 * maxSlots {
		noises = append(noises, pend{1 + at, empty()})
	}
	checkOpened(t, "64 slots of noise", 1, noise(maxSlots*slotSize), nil, noises...)
	checkOpened(t, "64 slots of ones", 1, bytes.Repeat([]byte{1}, maxSlots*slotSize), nil, noises...)
}

// P16.1: Open of another part of the slots, or of more than these.
func TestOpenOtherSlots(t *testing.T) {
	image := join(empty(), slots(hold(1), hold(2), hold(3)), empty())
	d := loaded(t, image)
	checkTable(t, "fewer", open(t, "fewer", d, 1, 2), 2, holds(1, 2)...)
	checkTable(t, "the later ones", open(t, "the later ones", d, 3, 2), 2, holds(2, 3)...)
	checkTable(t, "one of them", open(t, "one of them", d, 5, 1), 1, holds(3)...)
	checkDisk(t, "parts", d, image)
	early, late := loaded(t, image), loaded(t, image)
	checkTable(t, "a sector early", open(t, "a sector early", early, 0, 4), 4, holds(1, 2, 3)...)
	checkDisk(t, "a sector early", early, slots(held{}, hold(1), hold(2), hold(3)))
	checkTable(t, "a sector late", open(t, "a sector late", late, 2, 3), 3, holds(1, 2, 3)...)
	checkDisk(t, "a sector late", late, join(image[:2*sector], slots(hold(1), hold(2), hold(3))))
}

// P16.1: Open sees the latest writes; a Flush lets all that waits be durable,
// and without one everything waits still.
func TestOpenPending(t *testing.T) {
	image := within(1, slots(hold(1), held{}))
	d := loaded(t, image)
	put(t, d, 3, join(encoded(hold(2)), encoded(hold(2))))
	put(t, d, 0, empty())
	d.Limit(1)
	checkTable(t, "pending", open(t, "pending", d, 1, 2), 2, holds(1, 2)...)
	checkDisk(t, "pending", d, image, pend{3, encoded(hold(2))}, pend{4, encoded(hold(2))}, pend{0, empty()})
	d.Crash()
	checkTable(t, "lost", open(t, "lost", d, 1, 2), 2, holds(1)...)
	checkDisk(t, "lost", d, image)

	put(t, d, 3, encoded(hold(2)))
	put(t, d, 0, empty())
	d.Limit(2)
	checkNotOpened(t, "the first copy is pending", d, 1, 2, 1, api.ErrPower)
	checkDisk(t, "the first copy is pending", d, image, pend{3, encoded(hold(2))}, pend{0, empty()}, pend{4, encoded(hold(2))})
	d.Limit(3)
	checkTable(t, "all are pending", open(t, "all are pending", d, 1, 2), 2, holds(1, 2)...)
	checkLeft(t, "all are pending", d, 3, 1)
	d.Limit(-1)
	put(t, d, 4, empty())
	checkTable(t, "flushed", open(t, "flushed", d, 1, 2), 2, holds(1, 2)...)
	checkDisk(t, "flushed", d, join(empty(), slots(hold(1), hold(2)), noise(3*sector)))
}

// model is a table by the chapter's Terms.
type model struct {
	d     *disk.Disk
	from  int
	slots []held // one without a key for a slot that contains none
	dead  bool
}

// modelled is what Open returns by P16.1, or the position and the number of the
// error.
func modelled(d *disk.Disk, from, count int) (*model, int, api.Errno) {
	switch {
	case d == nil:
		return nil, 0, api.ErrNil
	case count < 1 || count > maxSlots:
		return nil, 0, api.ErrArg
	case from < 0 || from > maxDisk || from+2*count > d.Size():
		return nil, 0, api.ErrRange
	}
	b, x := d.Read(from, 2*count)
	if x != api.OK {
		return nil, 0, x
	}
	m := &model{d: d, from: from, slots: make([]held, count)}
	for i := range count {
		if x := m.examine(i, b[i*slotSize:][:sector], b[i*slotSize+sector:][:sector]); x != api.OK {
			return nil, i, x
		}
	}
	return m, 0, api.OK
}

// examine examines a slot with these copies.
func (m *model) examine(i int, first, second []byte) api.Errno {
	h, ok := decoded(first)
	if ok && m.of(h.bucket) < 0 {
		m.slots[i] = h
		if !bytes.Equal(first, second) {
			return m.write(2*i+1, first)
		}
		return api.OK
	}
	if bytes.Equal(first, empty()) && bytes.Equal(second, empty()) {
		return api.OK
	}
	if bytes.Equal(first, empty()) {
		return m.write(2*i+1, empty())
	}
	return m.both(i, empty())
}

// write writes a sector of the slots, and flushes the disk.
func (m *model) write(at int, b []byte) api.Errno {
	x := m.d.Write(m.from+at, b)
	if x == api.OK {
		x = m.d.Flush()
	}
	return x
}

// both writes both sectors of a slot.
func (m *model) both(i int, b []byte) api.Errno {
	if x := m.write(2*i, b); x != api.OK {
		return x
	}
	return m.write(2*i+1, b)
}

// of is the slot of a bucket, or -1.
func (m *model) of(bucket int) int {
	for i, h := range m.slots {
		if h.key != nil && h.bucket == bucket {
			return i
		}
	}
	return -1
}

// put is Put by P16.2: the position and the number of the error.
func (m *model) put(bucket int, key []byte) (int, api.Errno) {
	switch {
	case m.dead:
		return 0, api.ErrPower
	case bucket < 0 || bucket > maxTime || len(key) != keySize:
		return 0, api.ErrArg
	case m.of(bucket) >= 0:
		return 0, api.ErrTaken
	}
	for i, h := range m.slots {
		if h.key != nil {
			continue
		}
		h = held{bucket, bytes.Clone(key)}
		x := m.both(i, encoded(h))
		if m.dead = x != api.OK; !m.dead {
			m.slots[i] = h
		}
		return i, x
	}
	return 0, api.ErrFull
}

// shred is Shred by P16.3: the position and the number of the error.
func (m *model) shred(bucket int) (int, api.Errno) {
	i := m.of(bucket)
	switch {
	case m.dead:
		return 0, api.ErrPower
	case i < 0:
		return 0, api.ErrKey
	}
	m.slots[i] = held{}
	x := m.both(i, empty())
	m.dead = x != api.OK
	return i, x
}

// there are the keys that a model contains, in the order of the slots.
func (m *model) there() []held {
	return slices.DeleteFunc(slices.Clone(m.slots), func(h held) bool { return h.key == nil })
}

// twin is a table and a model of it, each on a disk of its own. The disks had
// the same contents at first, and everything is done to both of them.
type twin struct {
	d, other *disk.Disk
	k        *keys.Table
	m        *model
}

// twins are two disks with an image, and no table yet.
func twins(t *testing.T, image []byte) *twin {
	t.Helper()
	return &twin{d: loaded(t, image), other: loaded(t, image)}
}

// opened are two disks with some octets from a sector on, and the table of these.
func opened(t *testing.T, what string, from int, b []byte) *twin {
	t.Helper()
	w := twins(t, within(from, b))
	if x := w.open(t, what, from, len(b)/slotSize); x != api.OK {
		t.Fatalf("%s: Open: %v", what, x)
	}
	return w
}

// check holds the table and its disk against the model and its disk.
func (w *twin) check(t *testing.T, what string) {
	t.Helper()
	if w.m != nil {
		checkTable(t, what, w.k, len(w.m.slots), w.m.there()...)
	}
	if w.d.Waiting() != w.other.Waiting() || !slices.EqualFunc(w.d.All(), w.other.All(), bytes.Equal) || !bytes.Equal(w.d.Image(), w.other.Image()) {
		t.Errorf("%s: the disk has something else", what)
	}
}

// open opens both, anew.
func (w *twin) open(t *testing.T, what string, from, count int) api.Errno {
	t.Helper()
	k, err := keys.Open(w.d, from, count)
	m, at, x := modelled(w.other, from, count)
	checkFault(t, fmt.Sprintf("%s: Open(%d, %d)", what, from, count), err, at, x)
	if (k == nil) != (x != api.OK) {
		t.Fatalf("%s: Open(%d, %d): %v, %v", what, from, count, k, err)
	}
	w.k, w.m = k, m
	w.check(t, what+", opened")
	return x
}

// put puts a key into both.
func (w *twin) put(t *testing.T, what string, bucket int, key []byte) api.Errno {
	t.Helper()
	err := w.k.Put(bucket, key)
	at, x := w.m.put(bucket, key)
	what = fmt.Sprintf("%s: Put of %d", what, bucket)
	checkFault(t, what, err, at, x)
	w.check(t, what)
	return x
}

// shred shreds a key of both.
func (w *twin) shred(t *testing.T, what string, bucket int) api.Errno {
	t.Helper()
	err := w.k.Shred(bucket)
	at, x := w.m.shred(bucket)
	what = fmt.Sprintf("%s: Shred of %d", what, bucket)
	checkFault(t, what, err, at, x)
	w.check(t, what)
	return x
}

// limit limits both disks' calls.
func (w *twin) limit(calls int) {
	w.d.Limit(calls)
	w.other.Limit(calls)
}

// crash lets both disks crash.
func (w *twin) crash(keep ...int) {
	w.d.Crash(keep...)
	w.other.Crash(keep...)
}

// pieces are sectors that slots may have.
func pieces() [][]byte {
	out := [][]byte{empty(), empty(), empty(), noise(sector), changed(empty(), 127, 1), changed(encoded(hold(7)), 20, 2), encoded(held{3, key(9)})}
	for _, bucket := range []int{0, 1, 2, 3, 7, maxTime, maxTime + 1, -1} {
		out = append(out, encoded(hold(bucket)))
	}
	return out
}

// P16.1: slots of any pieces, held against the model, with any limit of calls.
func TestOpenAny(t *testing.T) {
	r := rand.New(rand.NewSource(1))
	all := pieces()
	for range 20000 {
		from, count := r.Intn(3), 1+r.Intn(6)
		var b []byte
		for range 2 * count {
			b = append(b, all[r.Intn(len(all))]...)
		}
		w := twins(t, within(from, b))
		w.limit(r.Intn(5*count) - count)
		if w.open(t, "any", from, count) != api.OK {
			w.limit(-1)
			w.open(t, "any", from, count)
		}
		before := w.k.Buckets()
		w.limit(1)
		if w.open(t, "any, again", from, count) != api.OK || !slices.Equal(w.k.Buckets(), before) {
			t.Fatalf("%d, not %d", w.k.Buckets(), before)
		}
	}
}

// P16.1: all pairs of pieces in one slot, and beside another one.
func TestOpenPairs(t *testing.T) {
	for _, first := range pieces() {
		for _, second := range pieces() {
			for _, b := range [][]byte{join(first, second), join(first, second, slots(hold(7))), join(slots(hold(7)), first, second), join(first, first, second, second)} {
				for limit := -1; limit < 11; limit++ {
					w := twins(t, within(1, b))
					w.limit(limit)
					w.open(t, "pairs", 1, len(b)/slotSize)
				}
			}
		}
	}
}

// wrongBuckets are numbers that no bucket has.
func wrongBuckets() []int {
	return []int{
		-1, maxTime + 1, -2, maxTime + 2, -7, -maxTime, -maxTime - 1, 2 * maxTime, 1<<41 + 1, 1<<48 + 7, 1 << 62, 1<<62 + 7, math.MaxInt, math.MaxInt - 1,
		math.MinInt, math.MinInt + 1, math.MinInt + 7, -1 << 32, 7 - 1<<32,
	}
}

// wrongKeys are octets that are no key.
func wrongKeys() [][]byte {
	long := noise(1000)
	return [][]byte{nil, {}, make([]byte, 0, keySize), key(1)[:0], long[:1], key(1)[:16], key(1)[:31], long[:33], long[:48], long[:64], long[:sector], long[:slotSize], long[:256+keySize], long}
}

// checkRefused puts what isn't to be put: nothing changes, and no call is made.
func checkRefused(t *testing.T, what string, w *twin, bucket int, key []byte, want api.Errno) {
	t.Helper()
	what = fmt.Sprintf("%s, a key of %d octets", what, len(key))
	image, all, waiting := w.d.Image(), w.m.there(), w.d.Waiting()
	if x := w.put(t, what, bucket, key); x != want {
		t.Errorf("%s: Put of %d: %v, want %v", what, bucket, x, want)
	}
	checkTable(t, what, w.k, len(w.m.slots), all...)
	if !bytes.Equal(w.d.Image(), image) || w.d.Waiting() != waiting {
		t.Errorf("%s: the disk has something else", what)
	}
}

// P16.2: what isn't a bucket or a key is refused ahead of anything else, whether
// there is an empty slot or not, and whether there's power or not.
func TestPutArguments(t *testing.T) {
	for _, all := range [][]held{{{}}, holds(7), {hold(7), {}}, {{}, hold(7)}, holds(7, 3), holds(0, maxTime)} {
		for _, limit := range []int{-1, 0, 1} {
			w := opened(t, "arguments", 2, slots(all...))
			w.limit(limit)
			for _, bucket := range wrongBuckets() {
				checkRefused(t, "a wrong bucket", w, bucket, key(1), api.ErrArg)
				for _, b := range wrongKeys() {
					checkRefused(t, "a wrong bucket and key", w, bucket, b, api.ErrArg)
				}
			}
			for _, bucket := range []int{0, 1, 7, 3, maxTime - 1, maxTime} {
				for _, b := range wrongKeys() {
					checkRefused(t, "a wrong key", w, bucket, b, api.ErrArg)
				}
			}
			checkLeft(t, "arguments", w.d, limit, 0)
		}
	}
}

// P16.2: a bucket that the table contains is refused, with its own key and with
// another one, also if no slot is empty.
func TestPutTaken(t *testing.T) {
	for _, all := range [][]held{holds(7), {hold(7), {}}, {{}, hold(7)}, {hold(3), {}, hold(7), {}}, holds(7, 3), holds(3, 7), holds(3, 5, 7)} {
		for _, limit := range []int{-1, 0, 1, 4} {
			w := opened(t, "taken", 1, slots(all...))
			w.limit(limit)
			for _, h := range w.m.there() {
				checkRefused(t, "its own key", w, h.bucket, h.key, api.ErrTaken)
				checkRefused(t, "another key", w, h.bucket, key(77), api.ErrTaken)
				checkRefused(t, "a key of zeros", w, h.bucket, make([]byte, keySize), api.ErrTaken)
				checkRefused(t, "a shorter key", w, h.bucket, h.key[:31], api.ErrArg)
			}
			checkLeft(t, "taken", w.d, limit, 0)
		}
	}
}

// P16.2: without an empty slot, each bucket is refused that the table doesn't
// contain; once a key is shredded, there's a slot again.
func TestPutFull(t *testing.T) {
	for _, count := range []int{1, 2, 3, 63, maxSlots} {
		w := opened(t, "full", 1, make([]byte, count*slotSize))
		for n := range count {
			if x := w.put(t, "full", n+10, key(n)); x != api.OK {
				t.Fatal(n, x)
			}
		}
		for _, limit := range []int{0, 1, -1} {
			w.limit(limit)
			for _, bucket := range []int{0, 1, 9, count + 10, 1<<32 + 10, maxTime} {
				checkRefused(t, "full", w, bucket, key(1), api.ErrFull)
			}
			checkRefused(t, "full", w, 10, key(1), api.ErrTaken)
			checkRefused(t, "full", w, count+9, key(1), api.ErrTaken)
			checkRefused(t, "full", w, -1, key(1), api.ErrArg)
			checkRefused(t, "full", w, 9, key(1)[1:], api.ErrArg)
			checkLeft(t, "full", w.d, limit, 0)
		}
		w.limit(-1)
		for n := range count {
			if w.shred(t, "full", n+10) != api.OK || w.put(t, "full", n+100, key(n+1)) != api.OK {
				t.Errorf("slot %d of %d is not to be had again", n, count)
			}
			checkRefused(t, "full again", w, n+10, key(1), api.ErrFull)
		}
	}
}

// P16.2: each bucket and each key there may be is put, and found again.
func TestPutAny(t *testing.T) {
	all := []held{
		hold(0), hold(1), hold(maxTime), hold(maxTime - 1), hold(1<<32 - 1), hold(1 << 32), hold(1<<32 + 1), hold(255), hold(256), hold(1 << 31),
		{7, make([]byte, keySize)}, {8, bytes.Repeat([]byte{255}, keySize)}, {9, changed(make([]byte, keySize), 0, 1)}, {10, changed(make([]byte, keySize), 31, 128)},
		{11, key(1)}, {12, key(1)}, {13, join([]byte("engk"), key(1)[4:])},
	}
	for from := range all {
		turned := slices.Concat(all[from:], all[:from])
		w := opened(t, "any", 1, make([]byte, len(all)*slotSize))
		for n, h := range turned {
			if x := w.put(t, "any", h.bucket, h.key); x != api.OK {
				t.Errorf("Put(%d, %x): %v", h.bucket, h.key, x)
			}
			checkTable(t, "any", w.k, len(all), turned[:n+1]...)
		}
		checkDisk(t, "any", w.d, within(1, slots(turned...)))
		checkTable(t, "any, opened", open(t, "any", w.d, 1, len(all)), len(all), turned...)
	}
}

// P16.2, P16.3: a key goes into the first slot that contains none, also into one
// that was shredded, by the table itself or when it was opened.
func TestPutFirst(t *testing.T) {
	w := opened(t, "first", 1, make([]byte, 4*slotSize))
	for _, x := range []struct {
		shred, put int
		want       []held
	}{
		{0, 9, []held{hold(9), {}, {}, {}}},
		{0, 8, []held{hold(9), hold(8), {}, {}}},
		{0, 7, []held{hold(9), hold(8), hold(7), {}}},
		{8, 6, []held{hold(9), hold(6), hold(7), {}}},
		{7, 8, []held{hold(9), hold(6), hold(8), {}}},
		{9, 9, []held{hold(9), hold(6), hold(8), {}}},
		{9, 5, []held{hold(5), hold(6), hold(8), {}}},
		{0, 4, []held{hold(5), hold(6), hold(8), hold(4)}},
		{4, 3, []held{hold(5), hold(6), hold(8), hold(3)}},
		{6, 4, []held{hold(5), hold(4), hold(8), hold(3)}},
	} {
		if x.shred != 0 {
			w.shred(t, "first", x.shred)
		}
		if errno := w.put(t, "first", x.put, key(x.put)); errno != api.OK {
			t.Errorf("Put(%d): %v", x.put, errno)
		}
		checkDisk(t, "first", w.d, within(1, slots(x.want...)))
	}
	for _, bucket := range []int{4, 5, 3} {
		w.shred(t, "several", bucket)
	}
	for n, want := range [][]held{{hold(1), {}, hold(8), {}}, {hold(1), hold(2), hold(8), {}}, {hold(1), hold(2), hold(8), hold(3)}} {
		w.put(t, "several", n+1, key(n+1))
		checkDisk(t, "several", w.d, within(1, slots(want...)))
	}

	w = opened(t, "opened", 1, join(slots(hold(1)), noise(slotSize), slots(hold(1)), empty(), encoded(hold(2))))
	for n, want := range [][]held{{hold(1), hold(5), {}, {}}, {hold(1), hold(5), hold(6), {}}, {hold(1), hold(5), hold(6), hold(7)}} {
		w.put(t, "opened", n+5, key(n+5))
		checkDisk(t, "opened", w.d, within(1, slots(want...)))
	}
}

// P16.2: Put writes the key to its slot whatever others wrote there meanwhile.
func TestPutOverOthers(t *testing.T) {
	d := loaded(t, within(1, slots(hold(7), held{})))
	k := open(t, "others", d, 1, 2)
	put(t, d, 1, noise(4*sector))
	add(t, "others", k, hold(3))
	checkDisk(t, "others", d, within(1, join(noise(slotSize), slots(hold(3)))))
	checkTable(t, "others", k, 2, holds(7, 3)...)
	shred(t, "others", k, 7)
	checkDisk(t, "others", d, within(1, slots(held{}, hold(3))))
}

// change is a call that writes a slot: what it's about, the slots ahead of it,
// the slot that it writes, what it writes there, and what the table contains
// afterwards, if the disk returns no error and if it does.
type change struct {
	what       string
	before     []held
	slot       int
	b          []byte
	call       func(k *keys.Table) error
	done, dead []held
}

// changes are a Put and a Shred in each place of a table.
func changes() []change {
	var out []change
	for ahead := range 4 {
		for behind := range 3 {
			before, after := holds(1, 2, 3)[:ahead], holds(4, 5)[:behind]
			rest := slices.Concat(before, after)
			all := slices.Concat(before, holds(7), after)
			with := slices.Concat(before, []held{{}}, after)
			out = append(out,
				change{"Put", with, ahead, encoded(hold(7)), func(k *keys.Table) error { return k.Put(7, key(7)) }, all, rest},
				change{"Put ahead of other empty slots", append(with, held{}, held{}), ahead, encoded(hold(7)), func(k *keys.Table) error { return k.Put(7, key(7)) }, all, rest},
				change{"Shred", all, ahead, empty(), func(k *keys.Table) error { return k.Shred(7) }, rest, rest},
				change{"Shred beside an empty slot", append(slices.Clone(all), held{}), ahead, empty(), func(k *keys.Table) error { return k.Shred(7) }, rest, rest},
			)
		}
	}
	return out
}

// P16.2, P16.3: Put and Shred write their two sectors one after another, each of
// them followed by a Flush, also of what others wrote; after an error of the
// disk the table is dead.
func TestChanges(t *testing.T) {
	for _, c := range changes() {
		for from := range 3 {
			for limit := -1; limit <= 6; limit++ {
				checkChange(t, c, from, limit)
			}
		}
	}
}

// checkChange does a change with a limit of calls, of which it needs four, and
// with another pending write on the disk.
func checkChange(t *testing.T, c change, from, limit int) {
	t.Helper()
	what := fmt.Sprintf("%s to slot %d of %d, with a limit of %d", c.what, c.slot, len(c.before), limit)
	count, image := len(c.before), within(from, slots(c.before...))
	d := loaded(t, image)
	k := open(t, what, d, from, count)
	outside := pend{from + 2*count + 1, empty()}
	put(t, d, outside.at, outside.b)
	first := pend{from + 2*c.slot, c.b}
	second := pend{first.at + 1, c.b}

	d.Limit(limit)
	err := c.call(k)
	switch limit {
	case 0:
		checkDisk(t, what, d, image, outside)
	case 1:
		checkDisk(t, what, d, image, outside, first)
	case 2:
		checkDisk(t, what, d, performed(image, outside, first))
	case 3:
		checkDisk(t, what, d, performed(image, outside, first), second)
	default:
		checkFault(t, what, err, 0, api.OK)
		checkTable(t, what, k, count, c.done...)
		checkDisk(t, what, d, performed(image, outside, first, second))
		checkLeft(t, what, d, limit, 4)
		return
	}
	checkFault(t, what, err, c.slot, api.ErrPower)
	checkTable(t, what, k, count, c.dead...)
	checkLeft(t, what, d, limit, limit)
	checkDead(t, what, d, k, count, c.dead)
	d.Crash()
	checkDead(t, what+", crashed", d, k, count, c.dead)
	open(t, what, d, from, count)
	checkDead(t, what+", opened anew", d, k, count, c.dead)
}

// checkDead sees that a table is dead, that it still tells what it contains, and
// that it makes no call of its disk.
func checkDead(t *testing.T, what string, d *disk.Disk, k *keys.Table, count int, all []held) {
	t.Helper()
	image, waiting := d.Image(), d.Waiting()
	for _, limit := range []int{5, 0, -1} {
		d.Limit(limit)
		for _, bucket := range []int{7, 1, 2, 3, 4, 8, 0, maxTime, -1, maxTime + 1, math.MinInt, math.MaxInt} {
			for _, b := range [][]byte{key(7), key(1), nil, key(1)[1:], noise(33)} {
				checkFault(t, what+", dead: Put", k.Put(bucket, b), 0, api.ErrPower)
			}
			checkFault(t, what+", dead: Shred", k.Shred(bucket), 0, api.ErrPower)
		}
		checkTable(t, what+", dead", k, count, all...)
		checkLeft(t, what+", dead", d, limit, 0)
	}
	if !bytes.Equal(d.Image(), image) || d.Waiting() != waiting {
		t.Errorf("%s: a dead table changed the disk", what)
	}
}

// P16.3: of a bucket that the table doesn't contain there's nothing to shred,
// whether it's one that was shredded, one that never was put, or none at all.
func TestShredUnknown(t *testing.T) {
	for _, all := range [][]held{{{}}, {{}, {}}, holds(3), {hold(3), {}}, {{}, hold(3)}, holds(3, 0), holds(maxTime, 3)} {
		for _, limit := range []int{-1, 0, 1, 4} {
			w := opened(t, "unknown", 1, slots(all...))
			w.limit(limit)
			for _, bucket := range append(wrongBuckets(), 7, 1, 2, 1<<32+3, 1<<39+3, 1<<32, maxTime-1) {
				if x := w.shred(t, "unknown", bucket); x != api.ErrKey {
					t.Errorf("Shred(%d): %v", bucket, x)
				}
				checkDisk(t, "unknown", w.d, within(1, slots(all...)))
			}
			checkLeft(t, "unknown", w.d, limit, 0)
		}
	}
	w := opened(t, "again", 1, slots(hold(7), held{}, hold(3), hold(0)))
	for n, bucket := range []int{7, 3, 0} {
		if x := w.shred(t, "once", bucket); x != api.OK {
			t.Errorf("Shred(%d): %v", bucket, x)
		}
		w.limit(0)
		for _, again := range []int{7, 3, 0}[:n+1] {
			if x := w.shred(t, "again", again); x != api.ErrKey {
				t.Errorf("Shred(%d) again: %v", again, x)
			}
		}
		w.limit(-1)
	}
	checkDisk(t, "all shredded", w.d, within(1, make([]byte, 4*slotSize)))
}

// P16.3: each slot of a table is shredded, in any order; the others stay.
func TestShredOrders(t *testing.T) {
	r := rand.New(rand.NewSource(6))
	for _, count := range []int{1, 2, 3, 4, 5, maxSlots} {
		for range 20 {
			all := make([]held, count)
			for n := range count {
				all[n] = hold(n)
			}
			w := opened(t, "orders", 1, slots(all...))
			for _, n := range r.Perm(count) {
				if x := w.shred(t, "orders", n); x != api.OK {
					t.Fatal(n, x)
				}
				all[n] = held{}
				checkDisk(t, "orders", w.d, within(1, slots(all...)))
			}
			for n := range count {
				w.put(t, "orders", maxTime-n, key(n))
			}
		}
	}
}

// P16.2, P16.3: what a table tells after each call, step by step.
func TestSteps(t *testing.T) {
	d := loaded(t, within(2, noise(3*slotSize)))
	k := open(t, "new", d, 2, 3)
	checkTable(t, "new", k, 3)
	add(t, "one", k, hold(9))
	checkTable(t, "one", k, 3, hold(9))
	add(t, "two", k, held{4, key(9)})
	checkTable(t, "two", k, 3, hold(9), held{4, key(9)})
	checkFault(t, "taken", k.Put(4, key(4)), 0, api.ErrTaken)
	add(t, "three", k, hold(0))
	checkTable(t, "three", k, 3, hold(9), held{4, key(9)}, hold(0))
	checkFault(t, "full", k.Put(5, key(5)), 0, api.ErrFull)
	checkFault(t, "wrong", k.Put(maxTime+1, key(5)), 0, api.ErrArg)
	shred(t, "the second one", k, 4)
	checkTable(t, "the second one", k, 3, hold(9), hold(0))
	checkFault(t, "again", k.Shred(4), 0, api.ErrKey)
	add(t, "the second one anew", k, hold(4))
	checkTable(t, "the second one anew", k, 3, hold(9), hold(4), hold(0))
	shred(t, "the ends", k, 0, 9)
	checkTable(t, "the ends", k, 3, hold(4))
	d.Limit(3)
	checkFault(t, "no power", k.Put(6, key(6)), 0, api.ErrPower)
	checkTable(t, "dead", k, 3, hold(4))
	d.Limit(-1)
	checkFault(t, "dead", k.Put(6, key(6)), 0, api.ErrPower)
	checkFault(t, "dead", k.Shred(4), 0, api.ErrPower)
	checkFault(t, "dead", k.Shred(6), 0, api.ErrPower)
	anew := open(t, "anew", d, 2, 3)
	checkTable(t, "anew", anew, 3, holds(6, 4)...)
	checkTable(t, "dead, beside a new table", k, 3, hold(4))
	d.Limit(2)
	checkFault(t, "no power", anew.Shred(4), 1, api.ErrPower)
	checkTable(t, "dead again", anew, 3, hold(6))
	checkFault(t, "dead again", anew.Shred(4), 0, api.ErrPower)
	d.Crash()
	checkTable(t, "the last one", open(t, "the last one", d, 2, 3), 3, hold(6))
	checkDisk(t, "the last one", d, within(2, slots(hold(6), held{}, held{})))
}

// P16.4: after a Shred both sectors of the slot are zero in the durable contents
// and nothing waits, whatever was pending there; no octet of the key is left.
func TestNothingIsLeft(t *testing.T) {
	image := within(1, slots(hold(1), held{}, hold(3)))
	d := loaded(t, image)
	k := open(t, "shredded", d, 1, 3)
	seven := held{7, bytes.Repeat([]byte{0x5a}, keySize)}
	add(t, "shredded", k, seven)
	put(t, d, 3, join(encoded(seven), noise(sector)))
	put(t, d, 4, encoded(seven))
	put(t, d, 3, encoded(seven))
	shred(t, "shredded", k, 7)
	checkDisk(t, "shredded", d, image)
	for _, b := range d.All() {
		if bytes.Contains(b, seven.key[:4]) {
			t.Errorf("there is still %x", b)
		}
	}
	d.Crash(0, 1, 2, 3, 4, 5)
	checkDisk(t, "crashed", d, image)
	checkTable(t, "crashed", open(t, "crashed", d, 1, 3), 3, holds(1, 3)...)
}

// choices are all lists of some of n numbers, in each order.
func choices(n int) [][]int {
	out := [][]int{nil}
	for from := 0; from < len(out); from++ {
		for k := range n {
			if !slices.Contains(out[from], k) {
				out = append(out, append(slices.Clone(out[from]), k))
			}
		}
	}
	return out
}

// checkCrashed opens a table after a crash, several times. It sees that it has
// these keys, that both copies of each are durable, and that the table works.
func checkCrashed(t *testing.T, what string, d *disk.Disk, from int, all []held) {
	t.Helper()
	count := len(all)
	there := slices.DeleteFunc(slices.Clone(all), func(h held) bool { return h.key == nil })
	for _, again := range []string{"", ", again"} {
		checkTable(t, what+again, open(t, what+again, d, from, count), count, there...)
		checkDisk(t, what+again, d, within(from, slots(all...)))
	}
	k := open(t, what, d, from, count)
	for _, h := range there {
		shred(t, what, k, h.bucket)
	}
	checkDisk(t, what+", shredded", d, within(from, make([]byte, count*slotSize)))
	add(t, what, k, hold(12345))
	checkDisk(t, what+", and another one", d, within(from, append(slots(hold(12345)), make([]byte, (count-1)*slotSize)...)))
}

// P16.4: a crash before, during and after a Put and a Shred, with each choice of
// performed writes: the keys that were there are, and the one that was put or
// shredded is or isn't, as its first sector says.
func TestCrashes(t *testing.T) {
	for _, c := range changes() {
		for limit := -1; limit <= 4; limit++ {
			for _, keep := range choices(2) {
				d := loaded(t, within(1, slots(c.before...)))
				k := open(t, c.what, d, 1, len(c.before))
				if limit >= 0 {
					d.Limit(limit)
					checkFault(t, c.what, c.call(k), c.slot, map[bool]api.Errno{true: api.ErrPower}[limit < 4])
				}
				n := d.Crash(keep...)
				after := slices.Clone(c.before)
				if limit > 1 || limit == 1 && n == 1 {
					after[c.slot], _ = decoded(c.b)
					if bytes.Equal(c.b, empty()) {
						after[c.slot] = held{}
					}
				}
				checkCrashed(t, fmt.Sprintf("%s to slot %d of %d, a crash after %d calls, %v", c.what, c.slot, len(c.before), limit, keep), d, 1, after)
			}
		}
	}
}

// P16.4: without a crash, what an interrupted Put or Shred did is completed when
// the table is opened again; a crash doesn't change it any more.
func TestOpenAfterDeath(t *testing.T) {
	for _, c := range changes() {
		for limit := range 4 {
			for _, keep := range choices(2) {
				d := loaded(t, within(1, slots(c.before...)))
				k := open(t, c.what, d, 1, len(c.before))
				d.Limit(limit)
				checkFault(t, c.what, c.call(k), c.slot, api.ErrPower)
				d.Limit(-1)
				there := c.done
				if limit == 0 {
					there = slices.DeleteFunc(slices.Clone(c.before), func(h held) bool { return h.key == nil })
				}
				what := fmt.Sprintf("%s to slot %d of %d, after %d calls, %v", c.what, c.slot, len(c.before), limit, keep)
				checkTable(t, what, open(t, what, d, 1, len(c.before)), len(c.before), there...)
				d.Crash(keep...)
				checkTable(t, what+", crashed", open(t, what, d, 1, len(c.before)), len(c.before), there...)
			}
		}
	}
}

// P16.4: a crash during Open, with each choice of performed writes, once and
// twice, changes no key that the first copies have.
func TestCrashesOfOpen(t *testing.T) {
	tests := []struct {
		what string
		b    []byte
		all  []held
	}{
		{"a Put", join(slots(hold(1)), encoded(hold(7)), empty(), slots(hold(3))), holds(1, 7, 3)},
		{"a Shred", join(slots(hold(1)), empty(), encoded(hold(7)), slots(hold(3))), []held{hold(1), {}, hold(3)}},
		{"another second copy", join(encoded(hold(7)), encoded(hold(9)), slots(hold(3))), holds(7, 3)},
		{"noise", join(noise(slotSize), slots(hold(3))), []held{{}, hold(3)}},
		{"noise ahead of a key", join(noise(sector), encoded(hold(7)), slots(hold(3))), []held{{}, hold(3)}},
		{"the same bucket", join(slots(hold(7)), slots(held{7, key(1)})), []held{hold(7), {}}},
		{"several", join(encoded(hold(7)), noise(sector), empty(), encoded(hold(9)), noise(slotSize), slots(hold(7))), []held{hold(7), {}, {}, {}}},
	}
	for _, x := range tests {
		for limit := range 10 {
			for second := range 6 {
				for _, keep := range choices(1) {
					for _, later := range choices(1) {
						d := loaded(t, within(1, x.b))
						d.Limit(limit)
						keys.Open(d, 1, len(x.all))
						d.Crash(keep...)
						d.Limit(second)
						keys.Open(d, 1, len(x.all))
						d.Crash(later...)
						checkCrashed(t, fmt.Sprintf("%s: crashes of Open after %d calls, %v, and %d, %v", x.what, limit, keep, second, later), d, 1, x.all)
					}
				}
			}
		}
	}
}

// life is a table that crashes now and then, with the keys that it's to contain.
type life struct {
	*twin
	count int
	sure  map[int][]byte
	maybe []held // at most one, which was being put or shredded
	gone  [][]byte
}

// P16.4: one crash after the other, each with any choice of performed writes,
// some of them during Open: each key whose Put returned nil is there until it is
// shredded, and none whose Shred returned nil ever again.
func TestManyCrashes(t *testing.T) {
	r := rand.New(rand.NewSource(2))
	for range 40 {
		count := 1 + r.Intn(5)
		l := &life{opened(t, "crashes", 1, noise(count*slotSize)), count, map[int][]byte{}, nil, nil}
		for round := range 60 {
			for !l.interrupted(t, r, round) {
			}
			l.again(t, r)
		}
	}
}

// interrupted puts or shreds a key, with some limit of calls, and tells whether
// the power failed.
func (l *life) interrupted(t *testing.T, r *rand.Rand, round int) bool {
	t.Helper()
	bucket, b := r.Intn(7), key(1000*round+r.Intn(1000))
	binary.BigEndian.PutUint64(b, r.Uint64())
	l.limit(r.Intn(14) - 1)
	if old := l.sure[bucket]; old != nil {
		x := l.shred(t, "crashes", bucket)
		delete(l.sure, bucket)
		if x != api.OK {
			l.maybe = []held{{bucket, old}}
			return true
		}
		l.gone = append(l.gone, old)
		return false
	}
	x := l.put(t, "crashes", bucket, b)
	if x == api.OK {
		l.sure[bucket] = b
	}
	if x == api.ErrPower {
		l.maybe = []held{{bucket, b}}
	}
	return x == api.ErrPower
}

// again opens a table again, after a crash or without one, and holds what it
// contains.
func (l *life) again(t *testing.T, r *rand.Rand) {
	t.Helper()
	for {
		if r.Intn(4) > 0 {
			l.crash(r.Perm(l.d.Waiting() + 1)[r.Intn(l.d.Waiting()+1):]...)
		}
		l.limit(r.Intn(8) - 1)
		if l.open(t, "again", 1, l.count) == api.OK {
			break
		}
	}
	for _, h := range l.maybe {
		if b, ok := l.k.Get(h.bucket); ok && bytes.Equal(b, h.key) {
			l.sure[h.bucket] = h.key
		}
	}
	l.maybe = nil
	if got := slices.Sorted(slices.Values(l.k.Buckets())); !slices.Equal(got, slices.Sorted(maps.Keys(l.sure))) {
		t.Fatalf("the buckets %d, not those of %x", got, l.sure)
	}
	for bucket, b := range l.sure {
		if got, _ := l.k.Get(bucket); !bytes.Equal(got, b) {
			t.Fatalf("the key of %d is %x, not %x", bucket, got, b)
		}
	}
	all := join(l.d.All()...)
	for _, b := range l.gone {
		if bytes.Contains(all, b[:8]) {
			t.Fatalf("%x was shredded", b)
		}
	}
}

// anySlots are octets of slots, of any pieces.
func anySlots(r *rand.Rand, count int) []byte {
	all := pieces()
	var out []byte
	for range count {
		first, second := all[r.Intn(len(all))], all[r.Intn(len(all))]
		if r.Intn(3) > 0 {
			second = first
		}
		out = append(out, join(first, second)...)
	}
	return out
}

// step does one thing to both.
func (w *twin) step(t *testing.T, r *rand.Rand) {
	t.Helper()
	buckets := []int{0, 1, 2, 3, 7, 8, 9, maxTime, maxTime + 1, -1}
	switch n := r.Intn(20); {
	case n == 0:
		w.limit(r.Intn(12) - 1)
	case n == 1:
		w.crash(r.Perm(w.d.Waiting() + 2)[r.Intn(w.d.Waiting()+2):]...)
	case n == 2:
		w.open(t, "any call", r.Intn(4)-1, r.Intn(6))
	case n == 3:
		w.limit(-1)
		w.open(t, "any call", r.Intn(3), 1+r.Intn(4))
	case n == 4:
		at, b := r.Intn(11), pieces()[r.Intn(len(pieces()))]
		if w.d.Write(at, b) != w.other.Write(at, b) {
			t.Error("the disks have different limits")
		}
	case w.m == nil:
	case n < 11:
		w.shred(t, "any call", buckets[r.Intn(len(buckets))])
	default:
		b := key(r.Intn(50))
		if r.Intn(20) == 0 {
			b = b[r.Intn(3):]
		}
		w.put(t, "any call", buckets[r.Intn(len(buckets))], b)
	}
}

// P16.1 to P16.4: any calls in any order, held against the model.
func TestAnyCalls(t *testing.T) {
	r := rand.New(rand.NewSource(3))
	for range 1500 {
		w := twins(t, within(1, anySlots(r, 4)))
		for range 60 {
			w.step(t, r)
		}
		if t.Failed() {
			return
		}
	}
}

// P16.4: what is done to a result changes neither the table, nor a later result,
// nor the disk.
func TestResultsAreNewMemory(t *testing.T) {
	made := func() (*keys.Table, *disk.Disk) {
		d := loaded(t, within(1, slots(hold(1), held{}, held{})))
		k := open(t, "made", d, 1, 3)
		add(t, "made", k, hold(2), hold(3))
		shred(t, "made", k, 2)
		add(t, "made", k, hold(4))
		return k, d
	}
	for _, all := range [][]held{holds(1, 4, 3)} {
		k, d := made()
		image := d.Image()
		for range 3 {
			for _, h := range all {
				first, _ := k.Get(h.bucket)
				second, _ := k.Get(h.bucket)
				spoil(first)
				if !bytes.Equal(second, h.key) {
					t.Errorf("the key of %d is %x, once another result is changed", h.bucket, second)
				}
				spoil(second)
			}
			first, second := k.Buckets(), k.Buckets()
			for i := range first[:cap(first)] {
				first[:cap(first)][i] = -9
			}
			if !slices.Equal(second, []int{1, 4, 3}) {
				t.Errorf("the buckets %d, once another result is changed", second)
			}
			_ = append(second[:1], 99, 99)
			checkTable(t, "results changed", k, 3, all...)
			checkDisk(t, "results changed", d, image)
		}
		shred(t, "results changed", k, 1)
		add(t, "results changed", k, hold(9))
		checkDisk(t, "results changed", d, within(1, slots(hold(9), hold(4), hold(3))))
		checkTable(t, "opened", open(t, "opened", d, 1, 3), 3, holds(9, 4, 3)...)
	}
}

// P16.4: an earlier result stays as it is, whatever is done to the table.
func TestResultsStay(t *testing.T) {
	d := loaded(t, within(1, slots(hold(1), hold(2))))
	k := open(t, "results", d, 1, 2)
	one, _ := k.Get(1)
	two, _ := k.Get(2)
	buckets := k.Buckets()
	err := k.Put(3, key(3))
	shred(t, "results", k, 1, 2)
	add(t, "results", k, hold(5), hold(6))
	put(t, d, 1, noise(4*sector))
	d.Limit(0)
	k.Shred(5)
	if !bytes.Equal(one, key(1)) || !bytes.Equal(two, key(2)) || !slices.Equal(buckets, []int{1, 2}) {
		t.Errorf("the results are %x, %x, %d", one, two, buckets)
	}
	checkFault(t, "an earlier error", err, 0, api.ErrFull)
}

// P16.4: a key that is changed after Put changes neither the table nor the disk,
// whether the disk returned an error or not.
func TestArgumentsAreNotKept(t *testing.T) {
	d := loaded(t, within(1, make([]byte, 3*slotSize)))
	k := open(t, "arguments", d, 1, 3)
	for _, b := range [][]byte{key(1), roomy(key(2))} {
		bucket := int(b[0]) - 1
		add(t, "arguments", k, held{bucket, b})
		spoil(b)
	}
	checkTable(t, "arguments changed", k, 3, holds(1, 2)...)
	checkDisk(t, "arguments changed", d, within(1, slots(hold(1), hold(2), held{})))
	b := key(3)
	d.Limit(3)
	checkFault(t, "no power", k.Put(3, b), 2, api.ErrPower)
	spoil(b)
	d.Limit(-1)
	checkTable(t, "anew", open(t, "anew", d, 1, 3), 3, holds(1, 2, 3)...)
	checkTable(t, "dead", k, 3, holds(1, 2)...)
}

// P16.4: no call changes a key that it is given, or what is behind it.
func TestArgumentsStay(t *testing.T) {
	d := loaded(t, within(1, make([]byte, 2*slotSize)))
	k := open(t, "arguments", d, 1, 2)
	check := func(what string, bucket int, b []byte, at int, x api.Errno) {
		t.Helper()
		given := roomy(b)
		want := bytes.Clone(whole(given))
		checkFault(t, what, k.Put(bucket, given), at, x)
		if !bytes.Equal(whole(given), want) {
			t.Errorf("%s: the key is %x, not %x", what, whole(given), want)
		}
	}
	check("put", 7, key(7), 0, api.OK)
	check("taken", 7, key(8), 0, api.ErrTaken)
	for _, b := range wrongKeys() {
		check("wrong", 8, b, 0, api.ErrArg)
	}
	check("put", 8, key(8), 0, api.OK)
	check("full", 9, key(9), 0, api.ErrFull)
	shred(t, "arguments", k, 7)
	d.Limit(1)
	check("no power", 9, key(9), 0, api.ErrPower)
	check("dead", 9, key(9), 0, api.ErrPower)
}

// P16.4: a key that the table itself gave out, or that another table did, is put
// as any other one.
func TestOwnResults(t *testing.T) {
	d := loaded(t, within(1, make([]byte, 3*slotSize)))
	k := open(t, "own", d, 1, 3)
	add(t, "own", k, hold(1))
	own, _ := k.Get(1)
	add(t, "own", k, held{2, own})
	shred(t, "own", k, 1)
	again, _ := k.Get(2)
	add(t, "own", k, held{3, again}, held{4, own})
	spoil(own)
	spoil(again)
	all := []held{{3, key(1)}, {2, key(1)}, {4, key(1)}}
	checkTable(t, "own", k, 3, all...)
	checkDisk(t, "own", d, within(1, slots(all...)))
}

// P16.4: what is done to a disk's octets elsewhere changes no table.
func TestTablesKeepTheirs(t *testing.T) {
	image := within(1, slots(hold(1), hold(2)))
	d := loaded(t, image)
	k := open(t, "image", d, 1, 2)
	spoil(image)
	spoil(d.Image())
	for _, b := range d.All() {
		spoil(b)
	}
	checkTable(t, "an image is changed", k, 2, holds(1, 2)...)
	put(t, d, 0, noise(d.Size()*sector))
	checkTable(t, "the disk is written", k, 2, holds(1, 2)...)
	if x := d.Flush(); x != api.OK {
		t.Error(x)
	}
	checkTable(t, "the disk is flushed", k, 2, holds(1, 2)...)
}

// P16.1 to P16.4: tables are apart from each other, on two disks and in two
// parts of one; two of the same slots go by what each of them knows.
func TestTablesAreApart(t *testing.T) {
	image := noise(20 * sector)
	d, other := loaded(t, image), loaded(t, image)
	a, b, c := open(t, "a", d, 1, 2), open(t, "b", d, 7, 2), open(t, "c", other, 1, 2)
	add(t, "a", a, hold(1))
	add(t, "b", b, hold(2), hold(1))
	add(t, "c", c, held{1, key(9)})
	shred(t, "b", b, 2)
	checkTable(t, "a", a, 2, hold(1))
	checkTable(t, "b", b, 2, hold(1))
	checkTable(t, "c", c, 2, held{1, key(9)})
	d.Limit(0)
	checkFault(t, "a", a.Put(5, key(5)), 1, api.ErrPower)
	d.Limit(-1)
	checkFault(t, "a", a.Put(5, key(5)), 0, api.ErrPower)
	add(t, "b", b, hold(5))
	add(t, "c", c, hold(5))
	checkTable(t, "a", a, 2, hold(1))
	checkTable(t, "b", b, 2, holds(5, 1)...)
	checkTable(t, "c", c, 2, held{1, key(9)}, hold(5))

	same := open(t, "same", d, 7, 2)
	shred(t, "same", same, 5)
	checkTable(t, "b", b, 2, holds(5, 1)...)
	checkTable(t, "same", same, 2, holds(1)...)
	checkTable(t, "opened", open(t, "opened", d, 7, 2), 2, holds(1)...)
	shred(t, "b", b, 5)
	checkTable(t, "b", b, 2, holds(1)...)
}

func FuzzOpen(f *testing.F) {
	f.Add(slots(hold(7), held{}, hold(3)), 1, 3, 0)
	f.Add(join(encoded(hold(7)), empty(), empty(), encoded(hold(3)), noise(slotSize)), 1, 3, 5)
	f.Add(slots(hold(7), hold(7)), 0, 2, -1)
	f.Add(noise(slotSize), 2, 1, 3)
	f.Fuzz(func(t *testing.T, b []byte, from, count, limit int) {
		image := within(1, append(bytes.Clone(b), make([]byte, 4*slotSize)...)[:4*slotSize])
		w := twins(t, image)
		w.limit(limit % 12)
		w.open(t, "any", from, count)
		w.limit(-1)
		if w.open(t, "any", from, count) != api.OK {
			return
		}
		before := w.k.Buckets()
		w.limit(1)
		if w.open(t, "again", from, count) != api.OK || !slices.Equal(w.k.Buckets(), before) {
			t.Fatalf("%d, not %d", w.k.Buckets(), before)
		}
		w.limit(-1)
		for n := range 3 {
			w.put(t, "any", n*7, key(n))
		}
		for _, bucket := range w.k.Buckets() {
			w.shred(t, "any", bucket)
		}
	})
}

func FuzzCalls(f *testing.F) {
	for seed := range 20 {
		f.Add(int64(seed), 50)
	}
	f.Fuzz(func(t *testing.T, seed int64, steps int) {
		r := rand.New(rand.NewSource(seed))
		w := twins(t, within(1, anySlots(r, 4)))
		for range max(0, min(steps, 100)) {
			w.step(t, r)
		}
	})
}
