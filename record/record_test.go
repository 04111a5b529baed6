package record_test

import (
	"bytes"
	"crypto/sha256"
	"encoding/binary"
	"encoding/hex"
	"math"
	"math/rand"
	"reflect"
	"slices"
	"strconv"
	"strings"
	"testing"

	"engrosser/api"
	"engrosser/record"
)

const (
	maxEpoch = 1 << 20
	maxTime  = 1 << 40
	maxBody  = 60000
)

// text is n octets that differ from their neighbours.
func text(n int) []byte {
	b := make([]byte, n)
	for i := range b {
		b[i] = byte(i*7 + i>>8 + 1)
	}
	return b
}

// roomy is a copy of b with something behind it.
func roomy(b []byte) []byte {
	return append(bytes.Clone(b), bytes.Repeat([]byte{0xee}, 70)...)[:len(b)]
}

// whole is b with what is behind it.
func whole(b []byte) []byte {
	return b[:cap(b)]
}

// spoil changes each octet of b and of its spare capacity.
func spoil(b []byte) {
	b = whole(b)
	for i := range b {
		b[i] ^= 255
	}
}

// none are no octets, in each way there is of it.
func none() [][]byte {
	return [][]byte{nil, {}, make([]byte, 0, 9), roomy(nil)}
}

// lists are the places of a record's octets.
func lists(r *api.Record) []*[]byte {
	return []*[]byte{&r.Group, &r.Body, &r.Tree, &r.Script, &r.Wrapped}
}

// numbers are the places of a record's numbers.
func numbers(r *api.Record) []*int {
	return []*int{&r.Kind, &r.Epoch, &r.Time, &r.Bucket}
}

// each is r with f of each of its lists in their place.
func each(r api.Record, f func([]byte) []byte) api.Record {
	for _, list := range lists(&r) {
		*list = f(*list)
	}
	return r
}

// plain is a copy of r in which no octets are nil.
func plain(r api.Record) api.Record {
	return each(r, func(b []byte) []byte { return append([]byte(nil), b...) })
}

// alike tells whether two records are equal, by Go's own library.
func alike(a, b api.Record) bool {
	return reflect.DeepEqual(plain(a), plain(b))
}

// with is r after a change.
func with(r api.Record, change func(*api.Record)) api.Record {
	change(&r)
	return r
}

// sample is a valid record of a kind; all of its lists and numbers differ.
func sample(kind int) api.Record {
	r := api.Record{Kind: kind, Group: []byte("grp"), Epoch: 3, Time: 9, Bucket: 2, Body: []byte("commit")}
	if kind != api.KindShred {
		b := text(112)
		r.Tree, r.Script, r.Wrapped = b[:32:32], b[32:64:64], b[64:]
	}
	return r
}

// samples are valid records of each kind.
func samples() []api.Record {
	return []api.Record{sample(api.KindJoin), sample(api.KindCommit), sample(api.KindShred)}
}

// encoded are a record's octets by the chapter's Terms, whether it is valid or
// not, as far as its lists have lengths that can be written.
func encoded(r api.Record) []byte {
	b := append([]byte{byte(r.Kind), byte(len(r.Group))}, r.Group...)
	for _, n := range []int{r.Epoch, r.Time, r.Bucket} {
		b = binary.BigEndian.AppendUint64(b, uint64(n))
	}
	b = binary.BigEndian.AppendUint16(b, uint16(len(r.Body)))
	b = append(b, r.Body...)
	for _, s := range [][]byte{r.Tree, r.Script, r.Wrapped} {
		b = append(append(b, byte(len(s))), s...)
	}
	return b
}

// short tells a record in a test's message.
func short(r api.Record) string {
	var words []string
	for _, n := range numbers(&r) {
		words = append(words, strconv.Itoa(*n))
	}
	for _, list := range lists(&r) {
		words = append(words, strconv.Itoa(len(*list))+" octets")
	}
	return strings.Join(words, ", ")
}

// checkRight writes and reads a record that is valid.
func checkRight(t *testing.T, what string, r api.Record) {
	t.Helper()
	if !record.Right(r) {
		t.Errorf("%s (%s): not right", what, short(r))
	}
	b, ok := record.Write(r)
	if !ok || !bytes.Equal(b, encoded(r)) {
		t.Errorf("%s (%s): wrote %d octets, %v", what, short(r), len(b), ok)
	}
	checkRead(t, what, encoded(r), r)
}

// checkWrong tries to write a record that isn't valid.
func checkWrong(t *testing.T, what string, r api.Record) {
	t.Helper()
	if record.Right(r) {
		t.Errorf("%s (%s): right", what, short(r))
	}
	if b, ok := record.Write(r); ok || len(b) != 0 {
		t.Errorf("%s (%s): wrote %d octets, %v", what, short(r), len(b), ok)
	}
}

// checkRead reads what can be read.
func checkRead(t *testing.T, what string, b []byte, want api.Record) {
	t.Helper()
	if got, x := record.Read(b); x != api.OK || !alike(got, want) {
		t.Errorf("%s: read %s, %v; want %s", what, short(got), x, short(want))
	}
}

// checkRefused reads what can't be read.
func checkRefused(t *testing.T, what string, b []byte, want api.Errno) {
	t.Helper()
	got, x := record.Read(b)
	if x != want {
		t.Errorf("%s, %d octets: %v, want %v", what, len(b), x, want)
	}
	if !alike(got, api.Record{}) {
		t.Errorf("%s, %d octets: read %s beside an error", what, len(b), short(got))
	}
}

// checkSame holds two records against each other, both ways round.
func checkSame(t *testing.T, what string, a, b api.Record, want bool) {
	t.Helper()
	if record.Same(a, b) != want || record.Same(b, a) != want {
		t.Errorf("%s (%s; %s): want %v", what, short(a), short(b), want)
	}
}

// P12.1 and P12.2: the chapter's example, and encodings that were made by
// another program (Python).
func TestKnown(t *testing.T) {
	counted := make([]byte, 112)
	for i := range counted {
		counted[i] = byte(i)
	}
	tests := []struct {
		r    api.Record
		want string
	}{
		{api.Record{Kind: api.KindShred, Group: []byte("g")}, "030167" + strings.Repeat("00", 29)},
		{
			api.Record{Kind: api.KindCommit, Group: []byte("grp"), Epoch: 3, Time: 9, Bucket: 2, Body: []byte("commit"),
				Tree: counted[:32], Script: counted[32:64], Wrapped: counted[64:]},
			"0203677270000000000000000300000000000000090000000000000002" + "0006636f6d6d6974" +
				"20000102030405060708090a0b0c0d0e0f101112131415161718191a1b1c1d1e1f" +
				"20202122232425262728292a2b2c2d2e2f303132333435363738393a3b3c3d3e3f" +
				"30404142434445464748494a4b4c4d4e4f505152535455565758595a5b5c5d5e5f606162636465666768696a6b6c6d6e6f",
		},
		{
			api.Record{Kind: api.KindJoin, Group: []byte("sixteen letters!"), Epoch: 1 << 20, Time: 1 << 40, Bucket: 1<<40 - 1,
				Tree: bytes.Repeat([]byte{255}, 32), Script: make([]byte, 32), Wrapped: bytes.Repeat([]byte{0x55}, 48)},
			"01107369787465656e206c657474657273210000000000100000" + "0000010000000000000000ffffffffff" + "0000" +
				"20" + strings.Repeat("ff", 32) + "20" + strings.Repeat("00", 32) + "30" + strings.Repeat("55", 48),
		},
	}
	for i, x := range tests {
		got, ok := record.Write(x.r)
		if !ok || hex.EncodeToString(got) != x.want {
			t.Errorf("%d: got %x, %v", i, got, ok)
		}
		b, err := hex.DecodeString(x.want)
		if err != nil {
			t.Fatal(err)
		}
		checkRead(t, "as made by the other program", b, x.r)
		checkRight(t, "as made by the other program", x.r)
	}
	if b, _ := record.Write(tests[0].r); len(b) != 32 {
		t.Errorf("the chapter's example has %d octets", len(b))
	}
}

// P12.1: the kinds that there are, and others, also those whose last octet is
// that of a kind.
func TestKinds(t *testing.T) {
	for _, r := range samples() {
		checkRight(t, "a kind", r)
		for _, kind := range []int{0, 4, 5, 255, 256, 257, 258, 259, 1<<32 + 1, 1<<32 + 3, -1, -2, -3, -253, -255, math.MaxInt, math.MinInt, math.MinInt + 1} {
			checkWrong(t, "another kind", with(r, func(r *api.Record) { r.Kind = kind }))
		}
	}
	checkWrong(t, "no kind", api.Record{Group: []byte("g")})
	checkWrong(t, "the zero value", api.Record{})
}

// P12.1: groups of each length, also those whose last octet is that of a
// length that is valid.
func TestGroups(t *testing.T) {
	for _, r := range samples() {
		for n := range 300 {
			r.Group = text(n)
			if n >= 1 && n <= 16 {
				checkRight(t, "a group", r)
			} else {
				checkWrong(t, "a group", r)
			}
		}
		for _, b := range none() {
			r.Group = b
			checkWrong(t, "no group", r)
		}
		for _, n := range []int{65535, 65536, 65537, 65552} {
			r.Group = text(n)
			checkWrong(t, "a long group", r)
		}
		for i := range 256 {
			r.Group = []byte{byte(i)}
			checkRight(t, "a group of one octet", r)
		}
	}
}

// P12.1: the numbers at the ends of their ranges and beyond them, and each of
// their bits.
func TestNumbers(t *testing.T) {
	for _, sampled := range samples() {
		for i, limit := range []int{maxEpoch, maxTime, maxTime} {
			r := sampled
			n := numbers(&r)[i+1]
			for _, *n = range []int{0, 1, 2, 127, 128, 255, 256, 65535, 65536, limit/2 + 1, limit - 1, limit} {
				checkRight(t, "a number", r)
			}
			for *n = 1; *n <= limit; *n *= 2 {
				checkRight(t, "a bit", r)
			}
			for _, *n = range []int{-1, -2, -limit, limit + 1, limit + 2, 2 * limit, 1<<32 + limit, 1 << 41, 1 << 62, -1 << 32, -1 << 40, math.MaxInt, math.MinInt, math.MinInt + 1} {
				checkWrong(t, "a number out of its range", r)
			}
		}
	}
}

// P12.1: bodies at the ends of their range and beyond it.
func TestBodies(t *testing.T) {
	for _, r := range samples() {
		for _, n := range []int{0, 1, 2, 127, 128, 255, 256, 257, 32767, 32768, maxBody - 1, maxBody} {
			r.Body = text(n)
			checkRight(t, "a body", r)
		}
		for _, b := range none() {
			r.Body = b
			checkRight(t, "no body", r)
		}
		for _, n := range []int{maxBody + 1, maxBody + 2, 65535, 65536, 65537, 1 << 17, 1 << 20} {
			r.Body = text(n)
			checkWrong(t, "a long body", r)
		}
	}
}

// P12.1: Tree, Script and Wrapped of all lengths beside each other, for each
// kind: those of a shred are empty.
func TestHashes(t *testing.T) {
	hashes := []int{0, 1, 16, 31, 32, 33, 48, 255, 256, 288}
	wraps := []int{0, 1, 32, 47, 48, 49, 96, 255, 256, 304}
	for _, r := range samples() {
		for _, tree := range hashes {
			for _, script := range hashes {
				for _, wrapped := range wraps {
					r.Tree, r.Script, r.Wrapped = text(tree), text(script), text(wrapped)
					right := tree == 32 && script == 32 && wrapped == 48
					if r.Kind == api.KindShred {
						right = tree+script+wrapped == 0
					}
					if right {
						checkRight(t, "hashes", r)
					} else {
						checkWrong(t, "hashes", r)
					}
				}
			}
		}
	}
}

// P12.1: a shred whose Tree, Script and Wrapped are empty in each way, and a
// record of another kind with them.
func TestNoHashes(t *testing.T) {
	for _, tree := range none() {
		for _, script := range none() {
			for _, wrapped := range none() {
				r := sample(api.KindShred)
				r.Tree, r.Script, r.Wrapped = tree, script, wrapped
				checkRight(t, "a shred", r)
				r.Kind = api.KindJoin
				checkWrong(t, "a join without hashes", r)
				r.Kind = api.KindCommit
				checkWrong(t, "a commit without hashes", r)
			}
		}
	}
	for i := range 3 {
		for _, n := range []int{1, 32, 48} {
			r := sample(api.KindShred)
			*lists(&r)[i+2] = make([]byte, n)
			checkWrong(t, "a shred with zeros", r)
		}
	}
}

// P12.1: all fields at the ends of their ranges at once.
func TestEnds(t *testing.T) {
	for _, r := range samples() {
		for _, group := range []int{1, 16} {
			for _, body := range []int{0, maxBody} {
				for i := range 8 {
					r.Group, r.Body = text(group), text(body)
					r.Epoch, r.Time, r.Bucket = i&1*maxEpoch, i>>1&1*maxTime, i>>2*maxTime
					checkRight(t, "ends", r)
				}
			}
		}
	}
}

// valid tells whether a record is valid, by the chapter's Terms.
func valid(r api.Record) bool {
	tree, script, wrapped := len(r.Tree), len(r.Script), len(r.Wrapped)
	switch r.Kind {
	case 1, 2:
		if tree != 32 || script != 32 || wrapped != 48 {
			return false
		}
	case 3:
		if tree != 0 || script != 0 || wrapped != 0 {
			return false
		}
	default:
		return false
	}
	if len(r.Group) == 0 || len(r.Group) > 16 || len(r.Body) > maxBody {
		return false
	}
	small := r.Epoch >= 0 && r.Time >= 0 && r.Bucket >= 0
	return small && r.Epoch <= maxEpoch && r.Time <= maxTime && r.Bucket <= maxTime
}

// anyRecord is one, each of whose fields is most often valid.
func anyRecord(r *rand.Rand) api.Record {
	pick := func(right, wrong []int) int {
		if r.Intn(12) == 0 {
			return wrong[r.Intn(len(wrong))]
		}
		return right[r.Intn(len(right))]
	}
	long := text(maxBody + 1)
	x := sample(pick([]int{1, 2, 3}, []int{0, 4, -1, 257}))
	x.Group = long[:pick([]int{1, 2, 9, 16}, []int{0, 17, 40})]
	x.Epoch = pick([]int{0, 1, 700, maxEpoch}, []int{-1, maxEpoch + 1, maxTime})
	x.Time = pick([]int{0, 1, maxEpoch + 1, maxTime}, []int{-1, maxTime + 1, math.MinInt})
	x.Bucket = pick([]int{0, 1, maxEpoch + 1, maxTime}, []int{-1, maxTime + 1, math.MaxInt})
	x.Body = long[:pick([]int{0, 1, 300, 1000}, []int{maxBody, maxBody + 1})]
	x.Tree = long[:pick([]int{len(x.Tree)}, []int{0, 31, 32, 33})]
	x.Script = long[:pick([]int{len(x.Script)}, []int{0, 31, 32, 33})]
	x.Wrapped = long[:pick([]int{len(x.Wrapped)}, []int{0, 47, 48, 49})]
	return x
}

// P12.1 and P12.3: any records, with any of their fields wrong.
func TestAnyRecords(t *testing.T) {
	r := rand.New(rand.NewSource(12))
	right := 0
	for range 20000 {
		x := anyRecord(r)
		if valid(x) {
			right++
			checkRight(t, "any record", x)
		} else {
			checkWrong(t, "any record", x)
		}
	}
	if right < 5000 || right > 15000 {
		t.Errorf("%d of 20000 records were valid", right)
	}
}

// P12.2: what is cut at any place is too short, whatever is behind it.
func TestReadCut(t *testing.T) {
	full := sample(api.KindCommit)
	full.Group, full.Body = text(16), text(300)
	for _, r := range append(samples(), full, api.Record{Kind: api.KindShred, Group: []byte("g")}) {
		b := encoded(r)
		for n := range b {
			checkRefused(t, "cut", slices.Clip(b[:n]), api.ErrShort)
			checkRefused(t, "cut, with the rest behind", b[:n], api.ErrShort)
		}
		checkRead(t, "whole", b, r)
	}
	for _, b := range none() {
		checkRefused(t, "no octets", b, api.ErrShort)
	}
	long := encoded(with(full, func(r *api.Record) { r.Body = text(maxBody) }))
	for _, n := range []int{43, 44, 45, 30000, 60042, 60043, 60044, 60076, 60110, len(long) - 1} {
		checkRefused(t, "a long one cut", long[:n], api.ErrShort)
	}
}

// P12.2: nothing may be behind the record, not even another one.
func TestReadTrail(t *testing.T) {
	for _, r := range samples() {
		b := encoded(r)
		for i := range 256 {
			checkRefused(t, "an octet behind", append(bytes.Clone(b), byte(i)), api.ErrTrail)
		}
		checkRefused(t, "octets behind", append(bytes.Clone(b), text(300)...), api.ErrTrail)
		checkRefused(t, "twice", append(bytes.Clone(b), b...), api.ErrTrail)
		checkRead(t, "with room behind", roomy(b), r)
	}
}

// place is where a list's length stands in a record's octets, and how many
// octets that has.
func place(r api.Record, list int) (at, size int) {
	body := 26 + len(r.Group)
	tree := body + 2 + len(r.Body)
	script := tree + 1 + len(r.Tree)
	wrapped := script + 1 + len(r.Script)
	at = []int{1, body, tree, script, wrapped}[list]
	if list == 1 {
		return at, 2
	}
	return at, 1
}

// relabelled is a record's octets, with another length of one of its lists, of
// which as many octets follow as keep says.
func relabelled(r api.Record, list, length, keep int) []byte {
	at, size := place(r, list)
	b := bytes.Clone(encoded(r)[:at])
	if size == 2 {
		b = append(b, byte(length>>8))
	}
	b = append(b, byte(length))
	return append(b, text(keep)...)
}

// P12.2: each length that is too great, whether there are as many octets or
// not, and lengths that aren't too great, but greater than what is left.
func TestReadLengths(t *testing.T) {
	for _, r := range samples() {
		for list, most := range []int{16, maxBody, 32, 32, 48} {
			_, size := place(r, list)
			for _, length := range []int{most + 1, most + 2, (most + 1<<(8*size)) / 2, 1<<(8*size) - 2, 1<<(8*size) - 1} {
				for _, keep := range []int{0, 1, most, length - 1, length, length + 1, length + 300} {
					checkRefused(t, "too long a list", relabelled(r, list, length, keep), api.ErrLong)
				}
			}
			for _, length := range []int{1, most / 2, most - 1, most} {
				for _, keep := range []int{0, length / 2, length - 1} {
					checkRefused(t, "a list cut", relabelled(r, list, length, keep), api.ErrShort)
				}
			}
		}
	}
}

// P12.2: if several lists are wrong, the first one tells.
func TestReadFirstWrong(t *testing.T) {
	long := func(n int) []byte { return text(n) }
	for _, r := range samples() {
		changes := []struct {
			what   string
			change func(*api.Record)
		}{
			{"Group", func(r *api.Record) { r.Group = long(17) }},
			{"Body", func(r *api.Record) { r.Body = long(maxBody + 1) }},
			{"Tree", func(r *api.Record) { r.Tree = long(33) }},
			{"Script", func(r *api.Record) { r.Script = long(33) }},
			{"Wrapped", func(r *api.Record) { r.Wrapped = long(49) }},
		}
		for i, x := range changes {
			b := encoded(with(r, x.change))
			checkRefused(t, x.what+" too long", b, api.ErrLong)
			checkRefused(t, x.what+" too long, and octets behind", append(bytes.Clone(b), 1), api.ErrLong)
			at, size := place(r, i)
			for n := range at + size {
				checkRefused(t, x.what+" too long, cut ahead of that", b[:n], api.ErrShort)
			}
			for _, n := range []int{at + size, at + size + 1, len(b) - 1} {
				checkRefused(t, x.what+" too long, cut behind that", b[:n], api.ErrLong)
			}
			for _, y := range changes[i+1:] {
				checkRefused(t, x.what+" and "+y.what, encoded(with(with(r, x.change), y.change)), api.ErrLong)
			}
		}
	}
}

// P12.2: numbers of eight octets that aren't in their ranges, also those whose
// first bit is set, and whose other bits are a number that would be.
func TestReadNumbers(t *testing.T) {
	for _, r := range samples() {
		b := encoded(r)
		start := 2 + len(r.Group)
		for i, limit := range []uint64{maxEpoch, maxTime, maxTime} {
			at := start + 8*i
			put := func(n uint64) []byte {
				b := bytes.Clone(b)
				binary.BigEndian.PutUint64(b[at:], n)
				return b
			}
			wrong := []uint64{limit + 1, limit + 2, 2 * limit, 1<<32 + limit, 1<<63 - 1, 1 << 63, 1<<63 + 3, 1<<63 + limit, -limit, -(limit + 1), 1<<64 - 2, 1<<64 - 1}
			for _, n := range wrong {
				checkRefused(t, "a number out of its range", put(n), api.ErrForm)
				checkRefused(t, "a number out of its range, and an octet behind", append(put(n), 0), api.ErrTrail)
				checkRefused(t, "a number out of its range, and cut", put(n)[:at+8], api.ErrShort)
			}
			for bit := range 64 {
				n := uint64(1) << bit
				if n > limit {
					checkRefused(t, "a bit", put(n), api.ErrForm)
				} else {
					checkRead(t, "a bit", put(n), with(r, func(r *api.Record) { *numbers(r)[i+1] = int(n) }))
				}
			}
			checkRead(t, "the limit", put(limit), with(r, func(r *api.Record) { *numbers(r)[i+1] = int(limit) }))
		}
	}
}

// unfit are records that can be read, but aren't valid: one for each way.
func unfit() map[string]api.Record {
	out := map[string]api.Record{}
	for _, r := range samples() {
		name := "kind " + strconv.Itoa(r.Kind)
		out[name+" without group"] = with(r, func(r *api.Record) { r.Group = nil })
		out[name+" with Epoch"] = with(r, func(r *api.Record) { r.Epoch = maxEpoch + 1 })
		out[name+" with Time"] = with(r, func(r *api.Record) { r.Time = maxTime + 1 })
		out[name+" with Bucket"] = with(r, func(r *api.Record) { r.Bucket = maxTime + 1 })
		out[name+" with negative Epoch"] = with(r, func(r *api.Record) { r.Epoch = -1 })
		out[name+" with negative Time"] = with(r, func(r *api.Record) { r.Time = -1 })
		out[name+" with negative Bucket"] = with(r, func(r *api.Record) { r.Bucket = -1 })
		out[name+" that is kind 0"] = with(r, func(r *api.Record) { r.Kind = 0 })
		out[name+" that is kind 4"] = with(r, func(r *api.Record) { r.Kind = 4 })
		for i, most := range []int{32, 32, 48} {
			for _, n := range []int{0, 1, most - 1, most} {
				x := with(r, func(r *api.Record) { *lists(r)[i+2] = text(n) })
				if !valid(x) {
					out[name+" with list "+strconv.Itoa(i)+" of "+strconv.Itoa(n)] = x
				}
			}
		}
	}
	full, empty := sample(api.KindJoin), sample(api.KindShred)
	out["a shred with all hashes"] = with(full, func(r *api.Record) { r.Kind = api.KindShred })
	out["a join without hashes"] = with(empty, func(r *api.Record) { r.Kind = api.KindJoin })
	out["a commit without hashes"] = with(empty, func(r *api.Record) { r.Kind = api.KindCommit })
	return out
}

// P12.2: what can be read but isn't valid, in each way; every error of the
// reader comes ahead of that.
func TestReadUnfit(t *testing.T) {
	all := unfit()
	if len(all) != 57 {
		t.Errorf("%d records", len(all))
	}
	for what, r := range all {
		b := encoded(r)
		checkWrong(t, what, r)
		checkRefused(t, what, b, api.ErrForm)
		checkRefused(t, what+" and an octet behind", append(bytes.Clone(b), 0), api.ErrTrail)
		for n := range b {
			checkRefused(t, what+" and cut", b[:n], api.ErrShort)
		}
		for list, length := range []int{17, maxBody + 1, 33, 33, 49} {
			checkRefused(t, what+" and a list too long", relabelled(r, list, length, length+200), api.ErrLong)
		}
	}
}

// P12.2: each kind that an octet can be.
func TestReadKinds(t *testing.T) {
	for _, r := range samples() {
		for kind := range 256 {
			x := with(r, func(r *api.Record) { r.Kind = kind })
			if valid(x) {
				checkRead(t, "a kind", encoded(x), x)
			} else {
				checkRefused(t, "a kind", encoded(x), api.ErrForm)
			}
		}
	}
}

// parsed is what Read has to return, by the chapters' words.
func parsed(b []byte) (api.Record, api.Errno) {
	var r api.Record
	x := api.OK
	number := func(size int) uint64 {
		if x == api.OK && len(b) < size {
			x = api.ErrShort
		}
		n := uint64(0)
		if x == api.OK {
			for _, c := range b[:size] {
				n = n*256 + uint64(c)
			}
			b = b[size:]
		}
		return n
	}
	list := func(size, most int) []byte {
		n := int(number(size))
		if x == api.OK && n > most {
			x = api.ErrLong
		}
		if x == api.OK && n > len(b) {
			x = api.ErrShort
		}
		if x != api.OK {
			return nil
		}
		out := b[:n]
		b = b[n:]
		return out
	}
	r.Kind, r.Group = int(number(1)), list(1, 16)
	r.Epoch, r.Time, r.Bucket = int(number(8)), int(number(8)), int(number(8))
	r.Body, r.Tree, r.Script, r.Wrapped = list(2, maxBody), list(1, 32), list(1, 32), list(1, 48)
	if x == api.OK && len(b) > 0 {
		x = api.ErrTrail
	}
	if x == api.OK && !valid(r) {
		x = api.ErrForm
	}
	if x != api.OK {
		return api.Record{}, x
	}
	return r, x
}

// checkParsed reads any octets.
func checkParsed(t *testing.T, b []byte) api.Errno {
	t.Helper()
	want, x := parsed(b)
	if x != api.OK {
		checkRefused(t, "any octets", b, x)
		return x
	}
	checkRead(t, "any octets", b, want)
	if again, ok := record.Write(want); !ok || !bytes.Equal(again, b) {
		t.Errorf("%x: wrote %x, %v", b, again, ok)
	}
	return x
}

// P12.2: records with octets changed, put in, taken out and cut off anywhere.
func TestReadAny(t *testing.T) {
	r := rand.New(rand.NewSource(13))
	seen := map[api.Errno]int{}
	for range 30000 {
		x := sample(1 + r.Intn(3))
		x.Group, x.Body = text(1+r.Intn(16)), text(r.Intn(20))
		b := encoded(x)
		for range r.Intn(4) {
			at := r.Intn(len(b))
			switch r.Intn(4) {
			case 0:
				b[at] = byte(r.Intn(256))
			case 1:
				b = slices.Insert(b, at, byte(r.Intn(256)))
			case 2:
				b = append(slices.Delete(b, at, at+1), 0)
			case 3:
				b = b[:max(at, 1)]
			}
		}
		seen[checkParsed(t, b)]++
	}
	for _, x := range []api.Errno{api.OK, api.ErrShort, api.ErrLong, api.ErrTrail, api.ErrForm} {
		if seen[x] < 100 {
			t.Errorf("%v was seen %d times", x, seen[x])
		}
	}
}

// P12.2: each single octet of a record changed to each value.
func TestReadChangedOctets(t *testing.T) {
	for _, r := range samples() {
		for i := range encoded(r) {
			for v := range 256 {
				b := encoded(r)
				b[i] = byte(v)
				checkParsed(t, b)
			}
		}
	}
}

// digest is the digest of octets by Go's own library.
func digest(parts ...[]byte) []byte {
	sum := sha256.Sum256(bytes.Join(parts, nil))
	return sum[:]
}

// P12.3: chains that were made by another program (Python).
func TestKnownChains(t *testing.T) {
	first := make([]byte, 32)
	tests := []struct {
		ahead, text []byte
		want        string
	}{
		{nil, nil, "e3b0c44298fc1c149afbf4c8996fb92427ae41e4649b934ca495991b7852b855"},
		{first, nil, "66687aadf862bd776c8fc18b8e9f8e20089714856ee233b3902a591d0d5f2925"},
		{nil, first, "66687aadf862bd776c8fc18b8e9f8e20089714856ee233b3902a591d0d5f2925"},
		{first, []byte{0}, "7f9c9e31ac8256ca2f258583df262dbc7d6f68f2a03043d5c99a4ae5a7396ce9"},
		{first, []byte("abc"), "365aa7d8f7f9402c4b9434502b4cc89ddb09fe50d7cd95b493b834c62d5a5370"},
	}
	for i, x := range tests {
		if got := hex.EncodeToString(record.Chain(x.ahead, x.text)); got != x.want {
			t.Errorf("%d: got %s, want %s", i, got, x.want)
		}
	}
	chain := first
	for _, word := range []string{"", "a", "", "bc"} {
		want := digest(chain, []byte(word))
		chain = record.Chain(chain, []byte(word))
		if !bytes.Equal(chain, want) {
			t.Errorf("after %q: got %x", word, chain)
		}
	}
}

// P12.3: the chain is the digest of both together, of any lengths, records or
// not, and wherever they are divided.
func TestChain(t *testing.T) {
	lengths := []int{0, 1, 31, 32, 33, 55, 56, 63, 64, 65, 119, 1000, 65535, 65536}
	for _, n := range lengths {
		for _, k := range lengths {
			ahead, b := roomy(text(n)), roomy(append([]byte{9}, text(k)...)[1:])
			if got := record.Chain(ahead, b); !bytes.Equal(got, digest(text(n), text(k))) {
				t.Errorf("%d and %d octets: got %x", n, k, got)
			}
		}
	}
	b := text(200)
	for i := range len(b) + 1 {
		if got := record.Chain(b[:i], b[i:]); !bytes.Equal(got, digest(b)) {
			t.Errorf("divided at %d: got %x", i, got)
		}
	}
	for _, x := range none() {
		for _, y := range none() {
			if got := record.Chain(x, y); !bytes.Equal(got, digest()) {
				t.Errorf("no octets: got %x", got)
			}
		}
		if !bytes.Equal(record.Chain(x, b), digest(b)) || !bytes.Equal(record.Chain(b, x), digest(b)) {
			t.Error("no octets on one side")
		}
	}
	long := text(1 << 20)
	if got := record.Chain(b[:32], long); !bytes.Equal(got, digest(b[:32], long)) {
		t.Errorf("a long text: got %x", got)
	}
}

// P12.3: each octet of both matters, and which of them comes first.
func TestChainDepends(t *testing.T) {
	ahead, b := text(32), text(70)
	seen := map[string]bool{string(record.Chain(ahead, b)): true, string(record.Chain(b, ahead)): true}
	for _, list := range [][]byte{ahead, b} {
		for i := range list {
			list[i] ^= 1
			got := record.Chain(ahead, b)
			if !bytes.Equal(got, digest(ahead, b)) {
				t.Errorf("octet %d changed: got %x", i, got)
			}
			seen[string(got)] = true
			list[i] ^= 1
		}
	}
	if len(seen) != 104 {
		t.Errorf("%d chains", len(seen))
	}
}

// P12.3: records that are the same, in other memory, and with no octets in
// other ways.
func TestSame(t *testing.T) {
	all := append(samples(), api.Record{}, api.Record{Kind: -7, Epoch: -1, Time: math.MinInt, Bucket: math.MaxInt, Body: text(70000)})
	for i, a := range all {
		for k, b := range all {
			checkSame(t, "samples", a, b, i == k)
		}
		checkSame(t, "a copy", a, each(a, bytes.Clone), true)
		checkSame(t, "a copy with room behind", a, each(a, roomy), true)
		checkSame(t, "a copy with nil", a, plain(a), true)
		for l := range lists(&a) {
			for _, x := range none() {
				for _, y := range none() {
					p, q := a, a
					*lists(&p)[l], *lists(&q)[l] = x, y
					checkSame(t, "no octets in one list", p, q, true)
				}
			}
		}
	}
	for _, x := range none() {
		for _, y := range none() {
			p := api.Record{Group: x, Body: x, Tree: x, Script: x, Wrapped: x}
			q := api.Record{Group: y, Body: y, Tree: y, Script: y, Wrapped: y}
			checkSame(t, "no octets at all", p, q, true)
		}
	}
}

// P12.3: records that differ in one number, by any bit, valid or not.
func TestSameNumbers(t *testing.T) {
	for _, a := range append(samples(), api.Record{}) {
		for i := range numbers(&a) {
			for bit := range 64 {
				b := a
				*numbers(&b)[i] ^= 1 << bit
				checkSame(t, "a number", a, b, false)
			}
			for _, n := range []int{-1, math.MaxInt, math.MinInt} {
				b := a
				*numbers(&b)[i] = n
				checkSame(t, "a number", a, b, false)
			}
		}
	}
}

// P12.3: records that differ in one list, by any bit or by its length, valid or
// not.
func TestSameLists(t *testing.T) {
	for _, a := range append(samples(), api.Record{}) {
		for i := range lists(&a) {
			list := *lists(&a)[i]
			differ := func(b []byte) {
				t.Helper()
				x := a
				*lists(&x)[i] = b
				checkSame(t, "list "+strconv.Itoa(i), a, x, false)
			}
			for k := range list {
				for bit := range 8 {
					b := bytes.Clone(list)
					b[k] ^= 1 << bit
					differ(b)
				}
				differ(list[:k])
				differ(slices.Delete(bytes.Clone(list), k, k+1))
			}
			differ(append(bytes.Clone(list), 0))
			differ(append(bytes.Clone(list), 1))
			differ(append([]byte{0}, list...))
			differ(append(bytes.Clone(list), text(70000)...))
		}
	}
}

// P12.3: octets in another list make another record, also if both are the same
// in a row.
func TestSameOtherLists(t *testing.T) {
	for i := range 5 {
		for k := range i {
			a := each(sample(api.KindJoin), func([]byte) []byte { return []byte("abab") })
			b := each(a, bytes.Clone)
			*lists(&b)[i], *lists(&b)[k] = []byte("ababa"), []byte("bab")
			checkSame(t, "moved", a, b, false)
			c := a
			*lists(&c)[i] = nil
			d := a
			*lists(&d)[k] = nil
			checkSame(t, "empty", c, d, false)
			e := a
			*lists(&e)[i] = []byte("cdcd")
			f := a
			*lists(&f)[k] = []byte("cdcd")
			checkSame(t, "exchanged", e, f, false)
		}
	}
	a := sample(api.KindCommit)
	for i := range 4 {
		for k := range i {
			b := a
			*numbers(&b)[i], *numbers(&b)[k] = *numbers(&a)[k], *numbers(&a)[i]
			checkSame(t, "numbers exchanged", a, b, *numbers(&a)[k] == *numbers(&a)[i])
		}
	}
}

// P12.3: Same tells what Go's own library tells, of any records.
func TestSameAny(t *testing.T) {
	r := rand.New(rand.NewSource(14))
	few := func() []byte { return text(r.Intn(2)) }
	for range 20000 {
		var pair [2]api.Record
		for i := range pair {
			for _, n := range numbers(&pair[i]) {
				*n = r.Intn(8) / 7
			}
			pair[i] = each(pair[i], func([]byte) []byte { return few() })
		}
		checkSame(t, "any records", pair[0], pair[1], alike(pair[0], pair[1]))
	}
}

// P12.3: an encoding is new memory.
func TestWriteIsNewMemory(t *testing.T) {
	for _, r := range samples() {
		x := each(r, roomy)
		first, _ := record.Write(x)
		second, _ := record.Write(x)
		spoil(first)
		if !alike(x, r) || !bytes.Equal(second, encoded(r)) {
			t.Errorf("%s: a changed result changed more", short(r))
		}
		checkRight(t, "after a changed result", x)
		each(x, func(b []byte) []byte { spoil(b); return b })
		if !bytes.Equal(second, encoded(r)) {
			t.Errorf("%s: a changed argument changed the result", short(r))
		}
		checkRight(t, "a changed argument", x)
	}
}

// P12.3: what is read is new memory, and its lists share none with each other,
// not even behind their ends.
func TestReadIsNewMemory(t *testing.T) {
	for _, r := range samples() {
		in := roomy(encoded(r))
		before := bytes.Clone(whole(in))
		first, _ := record.Read(in)
		second, _ := record.Read(in)
		first = each(first, whole)
		for i, list := range lists(&first) {
			others := first
			*lists(&others)[i] = nil
			want := plain(others)
			spoil(*list)
			if !alike(others, want) {
				t.Errorf("%s: list %d shares memory with another", short(r), i)
			}
		}
		if !bytes.Equal(whole(in), before) || !alike(second, r) {
			t.Errorf("%s: a changed result changed more", short(r))
		}
		checkRead(t, "after a changed result", in, r)
		spoil(in)
		if !alike(second, r) {
			t.Errorf("%s: a changed argument changed the result", short(r))
		}
	}
}

// P12.3: a chain is new memory, though it may be of nothing but the chain ahead.
func TestChainIsNewMemory(t *testing.T) {
	for _, n := range []int{0, 5, 32, 64} {
		ahead, b := roomy(text(32)), roomy(text(n))
		want := digest(text(32), text(n))
		first, second := record.Chain(ahead, b), record.Chain(ahead, b)
		spoil(first)
		if !bytes.Equal(ahead, text(32)) || !bytes.Equal(b, text(n)) || !bytes.Equal(second, want) {
			t.Errorf("%d octets: a changed result changed more", n)
		}
		if got := record.Chain(ahead, b); !bytes.Equal(got, want) {
			t.Errorf("%d octets: after a changed result: got %x", n, got)
		}
		spoil(ahead)
		spoil(b)
		if !bytes.Equal(second, want) {
			t.Errorf("%d octets: a changed argument changed the result", n)
		}
	}
}

// P12.3: arguments and the octets behind them stay as they were, whether there
// is a result or not.
func TestArgumentsAreNotChanged(t *testing.T) {
	for _, kind := range []int{0, 1, 2, 3, 4} {
		x := each(sample(kind), roomy)
		in := roomy(encoded(x))
		before := each(x, func(b []byte) []byte { return bytes.Clone(whole(b)) })
		octets := bytes.Clone(whole(in))
		record.Right(x)
		record.Write(x)
		record.Same(x, x)
		record.Read(in)
		record.Read(in[:len(in)/2])
		record.Read(in[:len(in)+1])
		record.Chain(in, x.Body)
		record.Chain(x.Group, in)
		if !alike(each(x, whole), before) || !bytes.Equal(whole(in), octets) {
			t.Errorf("kind %d: an argument was changed", kind)
		}
	}
}

// Rule 7: a call's result doesn't depend on the calls before it.
func TestCallsAreApart(t *testing.T) {
	for range 3 {
		for _, r := range samples() {
			checkRight(t, "again", r)
			checkWrong(t, "again", with(r, func(r *api.Record) { r.Time = -1 }))
			checkRefused(t, "again", encoded(r)[:9], api.ErrShort)
			checkRefused(t, "again", append(encoded(r), 0), api.ErrTrail)
			if got := record.Chain(text(32), encoded(r)); !bytes.Equal(got, digest(text(32), encoded(r))) {
				t.Errorf("again: got %x", got)
			}
		}
	}
}

// P12.1 to P12.3: any octets, read, written and chained.
func FuzzRead(f *testing.F) {
	for _, r := range samples() {
		f.Add(encoded(r))
	}
	f.Add([]byte{1, 17, 0})
	f.Fuzz(func(t *testing.T, b []byte) {
		checkParsed(t, b)
		if got := record.Chain(b, b); !bytes.Equal(got, digest(b, b)) {
			t.Errorf("%x: got %x", b, got)
		}
	})
}

// P12.1 to P12.3: any records.
func FuzzRecord(f *testing.F) {
	f.Add(3, []byte("g"), 0, 0, 0, []byte{}, []byte{}, []byte{}, []byte{})
	f.Add(2, []byte("grp"), 3, 9, 2, []byte("commit"), make([]byte, 32), make([]byte, 32), make([]byte, 48))
	f.Fuzz(func(t *testing.T, kind int, group []byte, epoch, time, bucket int, body, tree, script, wrapped []byte) {
		r := api.Record{Kind: kind, Group: group, Epoch: epoch, Time: time, Bucket: bucket, Body: body, Tree: tree, Script: script, Wrapped: wrapped}
		if valid(r) {
			checkRight(t, "any record", r)
		} else {
			checkWrong(t, "any record", r)
		}
		checkSame(t, "any record", r, each(r, bytes.Clone), true)
	})
}
