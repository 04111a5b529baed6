package disk_test

import (
	"bytes"
	"math"
	"math/rand"
	"slices"
	"testing"

	"engrosser/api"
	"engrosser/disk"
)

// size is a sector's, as the chapter tells it.
const size = 128

// most is how many sectors a disk may have, as the chapter tells it.
const most = 65536

// sector is one whose octets differ from their neighbours. Those of different
// numbers differ (all of numbers up to 255, some of greater ones), and none of
// their octets is zero.
func sector(k int) []byte {
	b := make([]byte, size)
	for i := range b {
		b[i] = byte(1 + (k*37+k>>8*i+i*11)%255)
	}
	return b
}

// zero is n sectors of zeros.
func zero(n int) []byte {
	return make([]byte, n*size)
}

// row is n sectors, of the numbers from first on.
func row(first, n int) []byte {
	var b []byte
	for i := range n {
		b = append(b, sector(first+i)...)
	}
	return b
}

// join is sectors one behind the other.
func join(sectors ...[]byte) []byte {
	return bytes.Join(sectors, nil)
}

// roomy is a copy of b with something behind it.
func roomy(b []byte) []byte {
	return append(bytes.Clone(b), bytes.Repeat([]byte{0xee}, 300)...)[:len(b)]
}

// spoil changes each octet of b and of its spare capacity.
func spoil(b []byte) {
	b = b[:cap(b)]
	for i := range b {
		b[i] ^= 255
	}
}

// none are no octets, in each way there is of it.
func none() [][]byte {
	return [][]byte{nil, {}, make([]byte, 0, 300), sector(1)[:0]}
}

// fresh is a new disk.
func fresh(t *testing.T, n int) *disk.Disk {
	t.Helper()
	d, x := disk.New(n)
	if d == nil || x != api.OK {
		t.Fatalf("New(%d): %v, %v", n, d, x)
	}
	return d
}

// loaded is a disk with some durable contents.
func loaded(t *testing.T, image []byte) *disk.Disk {
	t.Helper()
	d, x := disk.Load(image)
	if d == nil || x != api.OK {
		t.Fatalf("Load of %d bytes: %v, %v", len(image), d, x)
	}
	return d
}

// put writes, which has to succeed.
func put(t *testing.T, d *disk.Disk, at int, b []byte) {
	t.Helper()
	if x := d.Write(at, b); x != api.OK {
		t.Errorf("Write(%d, %d bytes) = %v", at, len(b), x)
	}
}

// flush is one that has to succeed.
func flush(t *testing.T, d *disk.Disk) {
	t.Helper()
	if x := d.Flush(); x != api.OK {
		t.Errorf("Flush() = %v", x)
	}
}

// checkRead reads what has to be there.
func checkRead(t *testing.T, d *disk.Disk, at, n int, want []byte) {
	t.Helper()
	if b, x := d.Read(at, n); x != api.OK || !bytes.Equal(b, want) {
		t.Errorf("Read(%d, %d) = %x, %v", at, n, b, x)
	}
}

// checkNoRead reads what can't be read.
func checkNoRead(t *testing.T, d *disk.Disk, at, n int, want api.Errno) {
	t.Helper()
	if b, x := d.Read(at, n); len(b) != 0 || x != want {
		t.Errorf("Read(%d, %d) = %d bytes, %v, want %v", at, n, len(b), x, want)
	}
}

// checkNoWrite writes what can't be written.
func checkNoWrite(t *testing.T, d *disk.Disk, at int, b []byte, want api.Errno) {
	t.Helper()
	if x := d.Write(at, b); x != want {
		t.Errorf("Write(%d, %d bytes) = %v, want %v", at, len(b), x, want)
	}
}

// check holds all that a disk tells without a call against what it has to be:
// the durable contents, and the pending writes' sectors and bytes.
func check(t *testing.T, d *disk.Disk, durable []byte, pending ...pend) {
	t.Helper()
	n := len(durable) / size
	if d.Size() != n {
		t.Errorf("Size() = %d, want %d", d.Size(), n)
	}
	if d.Waiting() != len(pending) {
		t.Errorf("Waiting() = %d, want %d", d.Waiting(), len(pending))
	}
	image := bytes.Clone(durable)
	want := slices.Collect(slices.Chunk(durable, size))
	for _, p := range pending {
		copy(image[p.at*size:], p.b)
		want = append(want, p.b)
	}
	if got := d.Image(); !bytes.Equal(got, image) {
		t.Errorf("Image() is wrong, %d bytes", len(got))
	}
	if got := d.All(); !slices.EqualFunc(got, want, bytes.Equal) {
		t.Errorf("All() is wrong, %d sectors, want %d", len(got), len(want))
	}
}

// pend is a pending write of one sector.
type pend struct {
	at int
	b  []byte
}

// checkOn holds that the power is on, and that there's no limit near.
func checkOn(t *testing.T, d *disk.Disk) {
	t.Helper()
	for i := range 1000 {
		if _, x := d.Read(0, 1); x != api.OK {
			t.Errorf("call %d: %v", i, x)
			return
		}
	}
}

// checkOff holds that each call returns ErrPower, again and again, and that
// none has an effect.
func checkOff(t *testing.T, d *disk.Disk) {
	t.Helper()
	image, all := d.Image(), d.All()
	for range 3 {
		checkNoRead(t, d, 0, 1, api.ErrPower)
		checkNoRead(t, d, 0, 0, api.ErrPower)
		checkNoRead(t, d, d.Size(), 0, api.ErrPower)
		checkNoRead(t, d, 0, d.Size(), api.ErrPower)
		checkNoWrite(t, d, 0, sector(200), api.ErrPower)
		checkNoWrite(t, d, 0, nil, api.ErrPower)
		checkNoWrite(t, d, d.Size(), nil, api.ErrPower)
		checkNoWrite(t, d, d.Size()-1, sector(201), api.ErrPower)
		if x := d.Flush(); x != api.ErrPower {
			t.Errorf("Flush() = %v", x)
		}
	}
	if !bytes.Equal(d.Image(), image) || !slices.EqualFunc(d.All(), all, bytes.Equal) {
		t.Error("a call with the power off has an effect")
	}
}

// numbers are ones that no disk has sectors for, and that pass the greatest int
// when they are added or multiplied.
func numbers() []int {
	return []int{
		math.MinInt, math.MinInt + 1, math.MinInt + size, math.MinInt / size, -1 << 57, -1 << 56, -most, -size, -2, -1,
		most + 1, 1 << 31, 1 << 32, 1<<32 + 1, 1 << 56, 1<<56 + 1, 1 << 57, 1<<57 + 1, 1<<57 + 2, 1 << 62,
		math.MaxInt / size, math.MaxInt/size + 1, math.MaxInt - size, math.MaxInt - 1, math.MaxInt,
	}
}

// P10.3: the chapter's example.
func TestExample(t *testing.T) {
	d := fresh(t, 1)
	a, b := sector(1), sector(2)
	put(t, d, 0, a)
	put(t, d, 0, b)
	if n := d.Crash(1, 0); n != 2 {
		t.Errorf("Crash(1, 0) = %d", n)
	}
	check(t, d, a)
	checkRead(t, d, 0, 1, a)
}

// The limits are the document's.
func TestLimits(t *testing.T) {
	if api.Sector != size || api.MaxDisk != most {
		t.Errorf("Sector %d, MaxDisk %d", api.Sector, api.MaxDisk)
	}
}

// P10.1: a new disk has the sectors that were asked for, all of zeros.
func TestNew(t *testing.T) {
	for _, n := range []int{1, 2, 3, 4, 7, 64, 127, 128, 129, 1000, most - 1, most} {
		d := fresh(t, n)
		check(t, d, zero(n))
		checkRead(t, d, 0, n, zero(n))
		checkRead(t, d, n-1, 1, zero(1))
		checkNoRead(t, d, n, 1, api.ErrRange)
		checkOn(t, d)
	}
}

// P10.1: there is no disk of other numbers of sectors.
func TestNewWrong(t *testing.T) {
	for _, n := range append(numbers(), 0) {
		if d, x := disk.New(n); d != nil || x != api.ErrArg {
			t.Errorf("New(%d) = %v, %v", n, d, x)
		}
	}
}

// P10.1: two new disks have nothing in common.
func TestNewDisks(t *testing.T) {
	d, other := fresh(t, 2), fresh(t, 2)
	put(t, d, 0, row(1, 2))
	d.Limit(1)
	flush(t, d)
	check(t, other, zero(2))
	checkOn(t, other)
}

// P10.1: a loaded disk has the image as its durable contents.
func TestLoad(t *testing.T) {
	for _, n := range []int{1, 2, 3, 5, 64, 129, most - 1, most} {
		image := row(n, n)
		d := loaded(t, image)
		check(t, d, image)
		checkRead(t, d, 0, n, image)
		checkRead(t, d, n-1, 1, image[(n-1)*size:])
		checkNoRead(t, d, n, 1, api.ErrRange)
		checkOn(t, d)
		if lost := d.Crash(); lost != 0 {
			t.Errorf("%d writes", lost)
		}
		check(t, d, image)
	}
	check(t, loaded(t, zero(3)), zero(3))
}

// P10.1: a disk that is loaded from another one's image has what is pending
// there as its durable contents.
func TestLoadImage(t *testing.T) {
	d := loaded(t, row(1, 3))
	put(t, d, 1, sector(9))
	copied := loaded(t, d.Image())
	check(t, copied, join(sector(1), sector(9), sector(3)))
	d.Crash()
	check(t, d, row(1, 3))
	copied.Crash()
	check(t, copied, join(sector(1), sector(9), sector(3)))
}

// P10.1: there is no disk of an image of no sectors, of too many, or of a part
// of one.
func TestLoadWrong(t *testing.T) {
	images := none()
	for _, n := range []int{
		1, 2, size / 2, size - 1, size + 1, 2*size - 1, 2*size + 1, 5*size - 1, 5*size + 1, 5*size + size/2,
		most*size - 1, most*size + 1, (most+1)*size - 1, (most + 1) * size, (most+1)*size + 1, 2 * most * size,
	} {
		images = append(images, make([]byte, n))
	}
	for _, image := range images {
		if d, x := disk.Load(image); d != nil || x != api.ErrArg {
			t.Errorf("Load of %d bytes: %v, %v", len(image), d, x)
		}
	}
}

// P10.1 and P10.4: Image, All, Size and Waiting with pending writes, also with
// two of one sector.
func TestPending(t *testing.T) {
	start := row(1, 4)
	d := loaded(t, start)
	put(t, d, 3, sector(11))
	check(t, d, start, pend{3, sector(11)})
	put(t, d, 0, row(21, 2))
	check(t, d, start, pend{3, sector(11)}, pend{0, sector(21)}, pend{1, sector(22)})
	put(t, d, 1, sector(31))
	four := []pend{{3, sector(11)}, {0, sector(21)}, {1, sector(22)}, {1, sector(31)}}
	check(t, d, start, four...)
	if want := join(sector(21), sector(31), sector(3), sector(11)); !bytes.Equal(d.Image(), want) {
		t.Error("Image")
	}
	put(t, d, 1, sector(22))
	put(t, d, 3, sector(4))
	check(t, d, start, append(four, pend{1, sector(22)}, pend{3, sector(4)})...)
	put(t, d, 0, zero(4))
	put(t, d, 0, start)
	if !bytes.Equal(d.Image(), start) || d.Waiting() != 14 || len(d.All()) != 18 {
		t.Errorf("%d pending writes", d.Waiting())
	}
}

// P10.4: of a new disk, All returns as many sectors of zeros.
func TestAllOfNew(t *testing.T) {
	for _, n := range []int{1, 2, 50} {
		all := fresh(t, n).All()
		if len(all) != n {
			t.Errorf("%d sectors of %d", len(all), n)
		}
		for i, b := range all {
			if !bytes.Equal(b, zero(1)) {
				t.Errorf("sector %d of %d: %x", i, n, b)
			}
		}
	}
}

// exist tells whether sectors exist, one by one.
func exist(d *disk.Disk, at, n int) bool {
	if at < 0 || n < 0 || at > d.Size() {
		return false
	}
	for i := range n {
		if at+i >= d.Size() {
			return false
		}
	}
	return true
}

// P10.2: reads of all sectors that there are, and of ones that there aren't.
func TestRead(t *testing.T) {
	for _, count := range []int{1, 2, 5} {
		image := row(1, count)
		d := loaded(t, image)
		for at := -3; at <= count+3; at++ {
			for n := -3; n <= count+3; n++ {
				if exist(d, at, n) {
					checkRead(t, d, at, n, image[at*size:(at+n)*size])
				} else {
					checkNoRead(t, d, at, n, api.ErrRange)
				}
			}
		}
		checkRead(t, d, count, 0, nil)
		checkNoRead(t, d, count+1, 0, api.ErrRange)
		check(t, d, image)
	}
}

// P10.2: reads with numbers whose sum or product passes the greatest int.
func TestReadFar(t *testing.T) {
	d := loaded(t, row(1, 5))
	for _, far := range numbers() {
		for _, near := range append(numbers(), 0, 1, 4, 5, 6) {
			checkNoRead(t, d, far, near, api.ErrRange)
			checkNoRead(t, d, near, far, api.ErrRange)
		}
		if far != math.MinInt {
			checkNoRead(t, d, far, -far, api.ErrRange)
			checkNoRead(t, d, far, 1-far, api.ErrRange)
		}
	}
	check(t, d, row(1, 5))
}

// P10.2: writes to all sectors that there are, and to ones that there aren't.
func TestWrite(t *testing.T) {
	for _, count := range []int{1, 2, 5} {
		image := row(1, count)
		for at := -3; at <= count+3; at++ {
			for n := 0; n <= count+3; n++ {
				d := loaded(t, image)
				if !exist(d, at, n) {
					checkNoWrite(t, d, at, row(50, n), api.ErrRange)
					check(t, d, image)
					continue
				}
				put(t, d, at, row(50, n))
				var pending []pend
				for i := range n {
					pending = append(pending, pend{at + i, sector(50 + i)})
				}
				check(t, d, image, pending...)
				checkRead(t, d, at, n, row(50, n))
				checkRead(t, d, 0, at, image[:at*size])
				checkRead(t, d, at+n, count-at-n, image[(at+n)*size:])
			}
		}
	}
}

// P10.2: writes to sectors far away.
func TestWriteFar(t *testing.T) {
	d := loaded(t, row(1, 5))
	for _, far := range numbers() {
		for n := range 7 {
			checkNoWrite(t, d, far, row(50, n), api.ErrRange)
		}
	}
	check(t, d, row(1, 5))
}

// P10.2: a write of no bytes is one of no sectors.
func TestWriteNothing(t *testing.T) {
	d := loaded(t, row(1, 3))
	for _, b := range none() {
		for at := range 4 {
			put(t, d, at, b)
		}
		checkNoWrite(t, d, -1, b, api.ErrRange)
		checkNoWrite(t, d, 4, b, api.ErrRange)
	}
	check(t, d, row(1, 3))
	flush(t, d)
	check(t, d, row(1, 3))
}

// P10.2: bytes that are no whole number of sectors come ahead of all else.
func TestWriteParts(t *testing.T) {
	d := loaded(t, row(1, 3))
	ask := func() {
		for _, n := range []int{1, 2, size / 2, size - 1, size + 1, 2*size - 1, 2*size + 1, 3*size + 1, 4*size + 1, 9*size - 1} {
			for _, at := range []int{math.MinInt, -1, 0, 1, 2, 3, 4, 1 << 57, math.MaxInt} {
				checkNoWrite(t, d, at, row(50, 9)[:n], api.ErrArg)
			}
		}
	}
	ask()
	d.Limit(0)
	ask()
	check(t, d, row(1, 3))
	checkOff(t, d)
}

// P10.2: sectors that don't exist come ahead of the power.
func TestRangeAheadOfPower(t *testing.T) {
	d := loaded(t, row(1, 3))
	d.Limit(0)
	for _, p := range []struct{ at, n int }{
		{-1, 0}, {-1, 1}, {-1, 2}, {3, 1}, {4, 0}, {4, 1}, {2, 2}, {0, 4}, {math.MinInt, 1}, {math.MaxInt, 1}, {math.MaxInt, 0},
	} {
		checkNoRead(t, d, p.at, p.n, api.ErrRange)
		checkNoWrite(t, d, p.at, row(50, p.n), api.ErrRange)
	}
	checkNoRead(t, d, 0, -1, api.ErrRange)
	checkNoRead(t, d, 0, math.MinInt, api.ErrRange)
	checkNoRead(t, d, math.MaxInt, math.MaxInt, api.ErrRange)
	check(t, d, row(1, 3))
	checkOff(t, d)
}

// P10.2: reads see the latest write, pending or not.
func TestLatest(t *testing.T) {
	d := loaded(t, row(1, 4))
	put(t, d, 1, sector(11))
	put(t, d, 1, sector(12))
	checkRead(t, d, 1, 1, sector(12))
	checkRead(t, d, 0, 4, join(sector(1), sector(12), sector(3), sector(4)))
	put(t, d, 0, row(21, 3))
	checkRead(t, d, 0, 4, join(row(21, 3), sector(4)))
	flush(t, d)
	checkRead(t, d, 0, 4, join(row(21, 3), sector(4)))
	put(t, d, 2, sector(31))
	checkRead(t, d, 0, 4, join(row(21, 2), sector(31), sector(4)))
	put(t, d, 2, sector(23))
	checkRead(t, d, 0, 4, join(row(21, 3), sector(4)))
	put(t, d, 2, zero(1))
	checkRead(t, d, 2, 1, zero(1))
	check(t, d, join(row(21, 3), sector(4)), pend{2, sector(31)}, pend{2, sector(23)}, pend{2, zero(1)})
	d.Crash(1)
	checkRead(t, d, 0, 4, join(row(21, 3), sector(4)))
	put(t, d, 3, sector(41))
	put(t, d, 0, sector(42))
	d.Crash(0)
	checkRead(t, d, 0, 4, join(row(21, 3), sector(41)))
}

// P10.2: how many writes wait.
func TestWaiting(t *testing.T) {
	d := fresh(t, 8)
	want := 0
	for _, n := range []int{0, 1, 3, 8, 1, 0, 2} {
		put(t, d, 0, row(1, n))
		want += n
		if d.Waiting() != want {
			t.Errorf("Waiting() = %d, want %d", d.Waiting(), want)
		}
	}
	checkNoWrite(t, d, 7, row(1, 2), api.ErrRange)
	checkNoWrite(t, d, 0, row(1, 2)[:size+1], api.ErrArg)
	if d.Waiting() != want {
		t.Errorf("Waiting() = %d, want %d", d.Waiting(), want)
	}
	flush(t, d)
	if d.Waiting() != 0 {
		t.Errorf("after Flush: %d", d.Waiting())
	}
	put(t, d, 0, row(1, 5))
	if d.Waiting() != 5 {
		t.Errorf("after a Flush and writes: %d", d.Waiting())
	}
	d.Crash(2)
	if d.Waiting() != 0 {
		t.Errorf("after a crash: %d", d.Waiting())
	}
	put(t, d, 0, row(1, 2))
	if d.Waiting() != 2 {
		t.Errorf("after a crash and writes: %d", d.Waiting())
	}
}

// P10.2: a Flush performs all writes in their order, and nothing else.
func TestFlush(t *testing.T) {
	d := loaded(t, row(1, 3))
	flush(t, d)
	check(t, d, row(1, 3))
	put(t, d, 1, sector(11))
	put(t, d, 1, sector(12))
	put(t, d, 0, row(21, 2))
	put(t, d, 1, sector(13))
	flush(t, d)
	want := join(sector(21), sector(13), sector(3))
	check(t, d, want)
	flush(t, d)
	check(t, d, want)
	if n := d.Crash(0, 1, 2, 3, 4); n != 0 {
		t.Errorf("%d writes after a Flush", n)
	}
	check(t, d, want)
	put(t, d, 2, sector(2))
	check(t, d, want, pend{2, sector(2)})
	flush(t, d)
	check(t, d, join(sector(21), sector(13), sector(2)))
}

// counted are calls that count.
func counted() map[string]func(d *disk.Disk) api.Errno {
	read := func(at, n int) func(d *disk.Disk) api.Errno {
		return func(d *disk.Disk) api.Errno {
			_, x := d.Read(at, n)
			return x
		}
	}
	write := func(at int, b []byte) func(d *disk.Disk) api.Errno {
		return func(d *disk.Disk) api.Errno { return d.Write(at, b) }
	}
	return map[string]func(d *disk.Disk) api.Errno{
		"Read": read(0, 1), "Read of all": read(0, 3), "Read of nothing": read(1, 0), "Read at the end": read(3, 0),
		"Write": write(0, sector(50)), "Write of all": write(0, row(50, 3)), "Write of nothing": write(1, nil),
		"Write at the end": write(3, []byte{}), "Flush": func(d *disk.Disk) api.Errno { return d.Flush() },
	}
}

// uncounted makes all calls that don't count: of the other methods, and ones
// that return ErrArg or ErrRange.
func uncounted(t *testing.T, d *disk.Disk) {
	t.Helper()
	checkNoRead(t, d, -1, 1, api.ErrRange)
	checkNoRead(t, d, 0, -1, api.ErrRange)
	checkNoRead(t, d, 0, 4, api.ErrRange)
	checkNoRead(t, d, 4, 0, api.ErrRange)
	checkNoWrite(t, d, -1, sector(1), api.ErrRange)
	checkNoWrite(t, d, 3, sector(1), api.ErrRange)
	checkNoWrite(t, d, 4, nil, api.ErrRange)
	checkNoWrite(t, d, 0, sector(1)[1:], api.ErrArg)
	checkNoWrite(t, d, -1, sector(1)[1:], api.ErrArg)
	d.Size()
	d.Image()
	d.Waiting()
	d.All()
}

// P10.3: the power goes off after the given number of calls, whichever they
// are, and a call that returns ErrArg or ErrRange isn't one.
func TestLimit(t *testing.T) {
	for name, call := range counted() {
		for _, n := range []int{0, 1, 2, 3, 10} {
			d := loaded(t, row(1, 3))
			d.Limit(n)
			for i := range n {
				uncounted(t, d)
				if x := call(d); x != api.OK {
					t.Errorf("%s: call %d of %d: %v", name, i, n, x)
				}
			}
			uncounted(t, d)
			if x := call(d); x != api.ErrPower {
				t.Errorf("%s: a call after %d: %v", name, n, x)
			}
			checkOff(t, d)
			uncounted(t, d)
			checkOff(t, d)
		}
	}
}

// P10.3: calls of all methods count together, and one with several sectors is
// one call.
func TestLimitOfAll(t *testing.T) {
	d := fresh(t, 3)
	d.Limit(5)
	put(t, d, 0, row(1, 3))
	checkRead(t, d, 0, 3, row(1, 3))
	flush(t, d)
	put(t, d, 0, row(11, 2))
	checkRead(t, d, 1, 2, join(sector(12), sector(3)))
	if x := d.Flush(); x != api.ErrPower {
		t.Errorf("Flush() = %v", x)
	}
	check(t, d, row(1, 3), pend{0, sector(11)}, pend{1, sector(12)})
	checkOff(t, d)
}

// P10.3: without a limit, and with a negative one, the power stays on.
func TestNoLimit(t *testing.T) {
	for _, n := range []int{-1, -2, -5, -1000, math.MinInt, math.MinInt + 1} {
		d := loaded(t, row(1, 3))
		d.Limit(n)
		checkOn(t, d)
		d.Limit(0)
		checkOff(t, d)
		d.Limit(n)
		checkOn(t, d)
		d.Limit(2)
		d.Limit(n)
		checkOn(t, d)
		check(t, d, row(1, 3))
	}
}

// P10.3: large limits.
func TestLargeLimit(t *testing.T) {
	for _, n := range []int{1001, 1 << 32, math.MaxInt - 1, math.MaxInt} {
		d := fresh(t, 1)
		d.Limit(n)
		checkOn(t, d)
	}
	d := fresh(t, 1)
	d.Limit(1000)
	checkOn(t, d)
	checkOff(t, d)
}

// P10.3: the next Limit counts anew, also with the power off.
func TestNextLimit(t *testing.T) {
	d := fresh(t, 3)
	for _, n := range []int{4, 1, 3, 0, 2} {
		d.Limit(5)
		flush(t, d)
		flush(t, d)
		d.Limit(n)
		for range n {
			flush(t, d)
		}
		checkOff(t, d)
		d.Limit(2)
		flush(t, d)
		put(t, d, 0, sector(9))
		checkOff(t, d)
		if d.Waiting() != 1 {
			t.Errorf("Waiting() = %d", d.Waiting())
		}
		d.Limit(-1)
		flush(t, d)
		check(t, d, join(sector(9), zero(2)))
	}
}

// P10.3: what was written before the power went off is still pending.
func TestPowerOff(t *testing.T) {
	start := row(1, 3)
	d := loaded(t, start)
	put(t, d, 0, sector(11))
	d.Limit(1)
	put(t, d, 0, row(12, 2))
	three := []pend{{0, sector(11)}, {0, sector(12)}, {1, sector(13)}}
	checkOff(t, d)
	check(t, d, start, three...)
	d.Limit(0)
	check(t, d, start, three...)
	d.Limit(1)
	check(t, d, start, three...)
	flush(t, d)
	check(t, d, join(row(12, 2), sector(3)))
	checkOff(t, d)
}

// P10.3: a crash turns the power on and ends a limit.
func TestCrashPower(t *testing.T) {
	for _, n := range []int{-1, 0, 1, 2, 5} {
		d := loaded(t, row(1, 3))
		put(t, d, 1, sector(11))
		put(t, d, 2, sector(12))
		d.Limit(n)
		if got := d.Crash(1); got != 1 {
			t.Errorf("Crash(1) = %d", got)
		}
		check(t, d, join(row(1, 2), sector(12)))
		checkOn(t, d)
		d.Limit(1)
		flush(t, d)
		checkOff(t, d)
		if got := d.Crash(); got != 0 {
			t.Errorf("Crash() = %d", got)
		}
		checkOn(t, d)
		check(t, d, join(row(1, 2), sector(12)))
	}
}

// P10.3: crashes that perform some of five writes, three of them to one sector.
func TestCrash(t *testing.T) {
	start := row(1, 4)
	five := []pend{{1, sector(11)}, {1, sector(12)}, {2, sector(13)}, {1, sector(14)}, {0, sector(15)}}
	for _, c := range []struct {
		keep []int
		n    int
		want []byte
	}{
		{nil, 0, start},
		{[]int{}, 0, start},
		{[]int{0, 1, 2, 3, 4}, 5, join(sector(15), sector(14), sector(13), sector(4))},
		{[]int{4, 3, 2, 1, 0}, 5, join(sector(15), sector(11), sector(13), sector(4))},
		{[]int{2}, 1, join(row(1, 2), sector(13), sector(4))},
		{[]int{3, 1}, 2, join(sector(1), sector(12), row(3, 2))},
		{[]int{1, 3}, 2, join(sector(1), sector(14), row(3, 2))},
		{[]int{1, 3, 1}, 2, join(sector(1), sector(14), row(3, 2))},
		{[]int{1, 1, 3, 0, 1, 3, 3}, 3, join(sector(1), sector(11), row(3, 2))},
		{[]int{0, 0, 0}, 1, join(sector(1), sector(11), row(3, 2))},
		{[]int{-1, 5, 6, math.MinInt, math.MaxInt, -5}, 0, start},
		{[]int{5, 4, -1, -4, 4, 100}, 1, join(sector(15), row(2, 3))},
	} {
		for _, limit := range []int{-1, 0, 3} {
			d := loaded(t, start)
			for _, p := range five {
				put(t, d, p.at, p.b)
			}
			d.Limit(limit)
			check(t, d, start, five...)
			if n := d.Crash(c.keep...); n != c.n {
				t.Errorf("Crash(%v) = %d, want %d", c.keep, n, c.n)
			}
			check(t, d, c.want)
			checkRead(t, d, 0, 4, c.want)
			checkOn(t, d)
			if n := d.Crash(0, 1, 2, 3, 4); n != 0 {
				t.Errorf("after Crash(%v): %d more", c.keep, n)
			}
			check(t, d, c.want)
		}
	}
}

// P10.3: a crash with a write of several sectors may perform a part of it.
func TestCrashTears(t *testing.T) {
	d := loaded(t, row(1, 5))
	put(t, d, 1, row(11, 3))
	if n := d.Crash(2, 0); n != 2 {
		t.Errorf("%d writes", n)
	}
	check(t, d, join(sector(1), sector(11), sector(3), sector(13), sector(5)))
}

// P10.3: a crash of a disk with nothing pending changes nothing.
func TestCrashOfNothing(t *testing.T) {
	d := fresh(t, 2)
	for _, keep := range [][]int{nil, {0}, {0, 1, 2}, {-1}, {math.MaxInt, math.MinInt}} {
		if n := d.Crash(keep...); n != 0 {
			t.Errorf("Crash(%v) = %d", keep, n)
		}
		check(t, d, zero(2))
	}
}

// P10.3: the writes after a Flush or a crash are numbered from 0 on again.
func TestNumbers(t *testing.T) {
	d := fresh(t, 3)
	put(t, d, 0, row(1, 2))
	flush(t, d)
	put(t, d, 2, sector(3))
	put(t, d, 0, sector(4))
	if n := d.Crash(0, 2, 3); n != 1 {
		t.Errorf("after a Flush: %d writes", n)
	}
	check(t, d, row(1, 3))
	put(t, d, 1, sector(5))
	put(t, d, 2, sector(6))
	if n := d.Crash(1); n != 1 {
		t.Errorf("after a crash: %d writes", n)
	}
	check(t, d, join(row(1, 2), sector(6)))
}

// model is a disk by the chapter's definitions: what reads see is worked out of
// the durable contents and the pending writes each time.
type model struct {
	durable []byte
	pending []pend
	limited bool
	left    int
}

func (m *model) perform(p pend) { copy(m.durable[p.at*size:], p.b) }

func (m *model) image() []byte {
	now := model{durable: bytes.Clone(m.durable)}
	for _, p := range m.pending {
		now.perform(p)
	}
	return now.durable
}

// call is what a call that counts returns.
func (m *model) call() api.Errno {
	if m.limited && m.left == 0 {
		return api.ErrPower
	}
	m.left--
	return api.OK
}

func (m *model) wrong(at, n int) bool {
	return at < 0 || n < 0 || at+n > len(m.durable)/size
}

func (m *model) read(at, n int) ([]byte, api.Errno) {
	if m.wrong(at, n) {
		return nil, api.ErrRange
	}
	if x := m.call(); x != api.OK {
		return nil, x
	}
	return m.image()[at*size : (at+n)*size], api.OK
}

func (m *model) write(at int, b []byte) api.Errno {
	if len(b)%size > 0 {
		return api.ErrArg
	}
	if m.wrong(at, len(b)/size) {
		return api.ErrRange
	}
	x := m.call()
	for i := 0; x == api.OK && i*size < len(b); i++ {
		m.pending = append(m.pending, pend{at + i, bytes.Clone(b[i*size : (i+1)*size])})
	}
	return x
}

func (m *model) flush() api.Errno {
	x := m.call()
	if x == api.OK {
		m.durable, m.pending = m.image(), nil
	}
	return x
}

func (m *model) limit(n int) { m.limited, m.left = n >= 0, n }

func (m *model) crash(keep []int) int {
	var done []int
	for _, i := range keep {
		if i >= 0 && i < len(m.pending) && !slices.Contains(done, i) {
			m.perform(m.pending[i])
			done = append(done, i)
		}
	}
	m.pending, m.limited = nil, false
	return len(done)
}

// step makes a call without a pattern of a disk and of its model.
func step(t *testing.T, r *rand.Rand, d *disk.Disk, m *model) {
	t.Helper()
	at, n := r.Intn(9)-1, r.Intn(4)
	switch r.Intn(9) {
	case 0, 1:
		n -= r.Intn(2)
		b, x := d.Read(at, n)
		if want, y := m.read(at, n); x != y || !bytes.Equal(b, want) {
			t.Errorf("Read(%d, %d) = %x, %v, want %v", at, n, b, x, y)
		}
	case 2, 3, 4, 5:
		b := row(r.Intn(100), n)
		if n > 0 && r.Intn(9) == 0 {
			b = b[1+r.Intn(size):]
		}
		if x, y := d.Write(at, b), m.write(at, b); x != y {
			t.Errorf("Write(%d, %d bytes) = %v, want %v", at, len(b), x, y)
		}
	case 6:
		if x, y := d.Flush(), m.flush(); x != y {
			t.Errorf("Flush() = %v, want %v", x, y)
		}
	case 7:
		n = r.Intn(12) - 2
		d.Limit(n)
		m.limit(n)
	case 8:
		var keep []int
		for range r.Intn(2 + 2*len(m.pending)) {
			keep = append(keep, r.Intn(len(m.pending)+3)-1)
		}
		if x, y := d.Crash(keep...), m.crash(keep); x != y {
			t.Errorf("Crash(%v) = %d, want %d", keep, x, y)
		}
	}
}

// P10.1 to P10.4: calls without a pattern, of a disk and of its model.
func TestSome(t *testing.T) {
	r := rand.New(rand.NewSource(10))
	for range 200 {
		image := row(r.Intn(100), 1+r.Intn(8))
		d, m := loaded(t, image), &model{durable: bytes.Clone(image)}
		for range 100 {
			step(t, r, d, m)
			check(t, d, m.durable, m.pending...)
		}
		if t.Failed() {
			return
		}
	}
}

// lists are all lists of up to n numbers from least to greatest.
func lists(n, least, greatest int) [][]int {
	all := [][]int{nil}
	for start := 0; n > 0; n-- {
		end := len(all)
		for _, list := range all[start:end] {
			for i := least; i <= greatest; i++ {
				all = append(all, append(slices.Clone(list), i))
			}
		}
		start = end
	}
	return all
}

// P10.3: each crash that there is of up to four writes to two sectors.
func TestCrashes(t *testing.T) {
	start := row(1, 2)
	for _, places := range lists(4, 0, 1) {
		for _, keep := range lists(4, -1, len(places)) {
			d, m := loaded(t, start), &model{durable: bytes.Clone(start)}
			for i, at := range places {
				put(t, d, at, sector(11+i))
				m.write(at, sector(11+i))
			}
			n, want := d.Crash(keep...), m.crash(keep)
			if n != want || !bytes.Equal(d.Image(), m.durable) || d.Waiting() != 0 {
				t.Fatalf("writes to %v: Crash(%v) = %d, want %d", places, keep, n, want)
			}
			check(t, d, m.durable)
		}
	}
}

// P10.2 and P10.3: the largest disk, written whole and read sector by sector.
func TestLargest(t *testing.T) {
	d := fresh(t, most)
	b := row(1, most)
	put(t, d, 0, b)
	if d.Waiting() != most {
		t.Errorf("%d writes", d.Waiting())
	}
	for i := range most {
		if got, x := d.Read(i, 1); x != api.OK || !bytes.Equal(got, b[i*size:(i+1)*size]) {
			t.Fatalf("sector %d: %v", i, x)
		}
	}
	checkRead(t, d, most-2, 2, b[(most-2)*size:])
	checkRead(t, d, most, 0, nil)
	checkNoRead(t, d, most-1, 2, api.ErrRange)
	keep := make([]int, 0, most)
	want := zero(most)
	for i := most - 1; i >= 0; i -= 2 {
		keep = append(keep, i, i)
		copy(want[i*size:], b[i*size:(i+1)*size])
	}
	if n := d.Crash(keep...); n != most/2 {
		t.Errorf("Crash: %d writes", n)
	}
	check(t, d, want)
	put(t, d, 0, b)
	flush(t, d)
	check(t, d, b)
}

// P10.4: a result that is changed changes neither the disk nor a later result.
func TestResultsAreNew(t *testing.T) {
	start := row(1, 3)
	pending := []pend{{1, sector(11)}, {2, sector(12)}, {1, sector(13)}}
	d := loaded(t, start)
	put(t, d, 1, row(11, 2))
	put(t, d, 1, sector(13))
	for range 2 {
		spoil(d.Image())
		check(t, d, start, pending...)
		for at := range 4 {
			for n := range 4 - at {
				b, _ := d.Read(at, n)
				spoil(b)
				check(t, d, start, pending...)
			}
		}
		all := d.All()
		for _, b := range all {
			spoil(b)
		}
		check(t, d, start, pending...)
		clear(all[:cap(all)])
		check(t, d, start, pending...)
	}
	flush(t, d)
	want := join(sector(1), sector(13), sector(12))
	for range 2 {
		spoil(d.Image())
		b, _ := d.Read(0, 3)
		spoil(b)
		for _, b := range d.All() {
			spoil(b)
		}
		check(t, d, want)
		checkRead(t, d, 0, 3, want)
	}
	put(t, d, 0, sector(21))
	kept := [][]byte{d.Image(), d.All()[0], d.All()[3]}
	d.Crash(0)
	put(t, d, 0, zero(3))
	flush(t, d)
	for i, want := range [][]byte{join(sector(21), want[size:]), sector(1), sector(21)} {
		if !bytes.Equal(kept[i], want) {
			t.Errorf("a later call changes result %d", i)
		}
	}
}

// P10.4: no two slices of one result share memory, not even spare capacity.
func TestResultsShareNothing(t *testing.T) {
	d := loaded(t, row(1, 4))
	put(t, d, 2, row(11, 2))
	put(t, d, 2, sector(11))
	want := d.All()
	for i := range want {
		all := d.All()
		spoil(all[i])
		_ = append(all[i], sector(99)...)
		for j := range all {
			if j != i && !bytes.Equal(all[j], want[j]) {
				t.Errorf("slice %d changes with slice %d", j, i)
			}
		}
	}
	check(t, d, row(1, 4), pend{2, sector(11)}, pend{3, sector(12)}, pend{2, sector(11)})
}

// P10.4: an argument that is changed afterwards changes nothing on the disk.
func TestArgumentsAreNotKept(t *testing.T) {
	image := roomy(row(1, 3))
	d := loaded(t, image)
	spoil(image)
	check(t, d, row(1, 3))
	b := roomy(row(11, 2))
	put(t, d, 1, b)
	spoil(b)
	check(t, d, row(1, 3), pend{1, sector(11)}, pend{2, sector(12)})
	checkRead(t, d, 1, 2, row(11, 2))
	put(t, d, 0, b)
	spoil(b)
	keep := []int{1, 3, 0}
	if n := d.Crash(keep...); n != 3 {
		t.Errorf("%d writes", n)
	}
	clear(keep)
	got := d.Image()
	if !bytes.Equal(got[size:2*size], sector(11)) || !bytes.Equal(got[2*size:], sector(12)) || !bytes.Equal(got[:size], sector(1)) {
		t.Error("Crash")
	}
}

// P10.4: arguments stay as they were, with what is behind them.
func TestArgumentsStay(t *testing.T) {
	image, b, keep := roomy(row(1, 3)), roomy(row(11, 2)), []int{1, 1, -1, 0, 77, 78, 79}
	whole, same := bytes.Clone(image[:cap(image)]), bytes.Clone(b[:cap(b)])
	d := loaded(t, image)
	put(t, d, 1, b)
	checkNoWrite(t, d, 2, b, api.ErrRange)
	put(t, d, 0, sector(21))
	put(t, d, 1, sector(22))
	d.Crash(keep[:5]...)
	put(t, d, 0, zero(3))
	flush(t, d)
	d.Limit(0)
	checkNoWrite(t, d, 0, b, api.ErrPower)
	if !bytes.Equal(image[:cap(image)], whole) {
		t.Error("Load changes its image")
	}
	if !bytes.Equal(b[:cap(b)], same) {
		t.Error("Write changes its bytes")
	}
	if !slices.Equal(keep, []int{1, 1, -1, 0, 77, 78, 79}) {
		t.Errorf("Crash changes its numbers: %v", keep)
	}
	check(t, d, zero(3))
}

// P10.4: a disk may be written with its own image, and with a part of a result.
func TestOwnImage(t *testing.T) {
	d := loaded(t, row(1, 3))
	b, _ := d.Read(0, 2)
	put(t, d, 1, b)
	check(t, d, row(1, 3), pend{1, sector(1)}, pend{2, sector(2)})
	put(t, d, 0, d.Image())
	flush(t, d)
	check(t, d, join(sector(1), row(1, 2)))
}
