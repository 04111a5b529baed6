package wire_test

import (
	"bytes"
	"math"
	"math/rand"
	"testing"

	"engrosser/api"
	"engrosser/wire"
)

// written runs f on a new pen and returns what the pen then holds.
func written(f func(p *wire.Pen)) ([]byte, bool) {
	p := wire.New()
	f(p)
	return p.Bytes()
}

// text is n octets that differ from their neighbours.
func text(n int) []byte {
	b := make([]byte, n)
	for i := range b {
		b[i] = byte(i*7 + i>>8 + 1)
	}
	return b
}

func join(parts ...[]byte) []byte {
	return bytes.Join(parts, nil)
}

// P1.1: a new pen is empty, and not bad.
func TestNewPenIsEmpty(t *testing.T) {
	if b, ok := wire.New().Bytes(); len(b) != 0 || !ok {
		t.Errorf("got %x, %v", b, ok)
	}
}

// P1.1: what each call writes, at the ends of its range too.
func TestPenWrites(t *testing.T) {
	b255, b256, b65535 := text(255), text(256), text(65535)
	tests := []struct {
		name string
		call func(p *wire.Pen)
		want []byte
	}{
		{"U8 0", func(p *wire.Pen) { p.U8(0) }, []byte{0}},
		{"U8 127", func(p *wire.Pen) { p.U8(127) }, []byte{127}},
		{"U8 255", func(p *wire.Pen) { p.U8(255) }, []byte{255}},
		{"U16 0", func(p *wire.Pen) { p.U16(0) }, []byte{0, 0}},
		{"U16 258", func(p *wire.Pen) { p.U16(258) }, []byte{1, 2}},
		{"U16 65535", func(p *wire.Pen) { p.U16(65535) }, []byte{255, 255}},
		{"U32 0", func(p *wire.Pen) { p.U32(0) }, []byte{0, 0, 0, 0}},
		{"U32 mid", func(p *wire.Pen) { p.U32(0x01020304) }, []byte{1, 2, 3, 4}},
		{"U32 4294967295", func(p *wire.Pen) { p.U32(4294967295) }, []byte{255, 255, 255, 255}},
		{"U64 0", func(p *wire.Pen) { p.U64(0) }, make([]byte, 8)},
		{"U64 mid", func(p *wire.Pen) { p.U64(0x0102030405060708) }, []byte{1, 2, 3, 4, 5, 6, 7, 8}},
		{"U64 2^63", func(p *wire.Pen) { p.U64(1 << 63) }, []byte{128, 0, 0, 0, 0, 0, 0, 0}},
		{"U64 max", func(p *wire.Pen) { p.U64(math.MaxUint64) }, bytes.Repeat([]byte{255}, 8)},
		{"Raw nil", func(p *wire.Pen) { p.Raw(nil) }, nil},
		{"Raw empty", func(p *wire.Pen) { p.Raw([]byte{}) }, nil},
		{"Raw abc", func(p *wire.Pen) { p.Raw([]byte("abc")) }, []byte("abc")},
		{"Raw 65536", func(p *wire.Pen) { p.Raw(text(65536)) }, text(65536)},
		{"Short nil", func(p *wire.Pen) { p.Short(nil) }, []byte{0}},
		{"Short empty", func(p *wire.Pen) { p.Short([]byte{}) }, []byte{0}},
		{"Short ab", func(p *wire.Pen) { p.Short([]byte("ab")) }, []byte{2, 'a', 'b'}},
		{"Short 255", func(p *wire.Pen) { p.Short(b255) }, join([]byte{255}, b255)},
		{"Long nil", func(p *wire.Pen) { p.Long(nil) }, []byte{0, 0}},
		{"Long ab", func(p *wire.Pen) { p.Long([]byte("ab")) }, []byte{0, 2, 'a', 'b'}},
		{"Long 255", func(p *wire.Pen) { p.Long(b255) }, join([]byte{0, 255}, b255)},
		{"Long 256", func(p *wire.Pen) { p.Long(b256) }, join([]byte{1, 0}, b256)},
		{"Long 65535", func(p *wire.Pen) { p.Long(b65535) }, join([]byte{255, 255}, b65535)},
		{"the document's example", func(p *wire.Pen) { p.U16(258); p.Short([]byte("ab")) }, []byte{1, 2, 2, 'a', 'b'}},
	}
	for _, x := range tests {
		if b, ok := written(x.call); !ok || !bytes.Equal(b, x.want) {
			t.Errorf("%s: got %d octets, %v", x.name, len(b), ok)
		}
	}
}

// outOfRange are calls that make a pen bad.
func outOfRange() map[string]func(p *wire.Pen) {
	return map[string]func(p *wire.Pen){
		"U8 -1":          func(p *wire.Pen) { p.U8(-1) },
		"U8 256":         func(p *wire.Pen) { p.U8(256) },
		"U8 least":       func(p *wire.Pen) { p.U8(math.MinInt) },
		"U8 most":        func(p *wire.Pen) { p.U8(math.MaxInt) },
		"U16 -1":         func(p *wire.Pen) { p.U16(-1) },
		"U16 65536":      func(p *wire.Pen) { p.U16(65536) },
		"U16 least":      func(p *wire.Pen) { p.U16(math.MinInt) },
		"U16 most":       func(p *wire.Pen) { p.U16(math.MaxInt) },
		"U32 -1":         func(p *wire.Pen) { p.U32(-1) },
		"U32 4294967296": func(p *wire.Pen) { p.U32(4294967296) },
		"U32 least":      func(p *wire.Pen) { p.U32(math.MinInt) },
		"U32 most":       func(p *wire.Pen) { p.U32(math.MaxInt) },
		"Short 256":      func(p *wire.Pen) { p.Short(text(256)) },
		"Short 512":      func(p *wire.Pen) { p.Short(text(512)) },
		"Short 65536":    func(p *wire.Pen) { p.Short(text(65536)) },
		"Long 65536":     func(p *wire.Pen) { p.Long(text(65536)) },
		"Long 131072":    func(p *wire.Pen) { p.Long(text(131072)) },
	}
}

// allWrites are good calls, one of each method that writes.
func allWrites() []func(p *wire.Pen) {
	return []func(p *wire.Pen){
		func(p *wire.Pen) { p.U8(1) },
		func(p *wire.Pen) { p.U16(1) },
		func(p *wire.Pen) { p.U32(1) },
		func(p *wire.Pen) { p.U64(1) },
		func(p *wire.Pen) { p.Raw([]byte("a")) },
		func(p *wire.Pen) { p.Raw(nil) },
		func(p *wire.Pen) { p.Short([]byte("a")) },
		func(p *wire.Pen) { p.Long([]byte("a")) },
	}
}

// P1.1: out of range makes the pen bad, whatever was and will be written.
func TestPenGoesBadAndStaysBad(t *testing.T) {
	for name, bad := range outOfRange() {
		p := wire.New()
		p.Raw([]byte("before"))
		bad(p)
		if b, ok := p.Bytes(); ok || len(b) != 0 {
			t.Errorf("%s: got %x, %v", name, b, ok)
		}
		for i, write := range allWrites() {
			write(p)
			if b, ok := p.Bytes(); ok || len(b) != 0 {
				t.Errorf("%s, then write %d: got %x, %v", name, i, b, ok)
			}
		}
	}
}

// P1.1: a bad pen does not touch other pens.
func TestPensAreApart(t *testing.T) {
	p, q := wire.New(), wire.New()
	p.U8(256)
	q.U8(7)
	if b, ok := q.Bytes(); !ok || !bytes.Equal(b, []byte{7}) {
		t.Errorf("got %x, %v", b, ok)
	}
}

// P1.1: Bytes may be asked again and again, between writes.
func TestBytesLeavesThePen(t *testing.T) {
	p := wire.New()
	p.U8(1)
	first, _ := p.Bytes()
	p.U8(2)
	second, _ := p.Bytes()
	third, ok := p.Bytes()
	if !bytes.Equal(first, []byte{1}) || !bytes.Equal(second, []byte{1, 2}) || !bytes.Equal(third, []byte{1, 2}) || !ok {
		t.Errorf("got %x, %x, %x, %v", first, second, third, ok)
	}
}

// read is a read of any method; its result stands as a number or as octets.
type read struct {
	name string
	call func(e *wire.Eye) (uint64, []byte)
}

func u8() read {
	return read{"U8", func(e *wire.Eye) (uint64, []byte) { return uint64(e.U8()), nil }}
}

func u16() read {
	return read{"U16", func(e *wire.Eye) (uint64, []byte) { return uint64(e.U16()), nil }}
}

func u32() read {
	return read{"U32", func(e *wire.Eye) (uint64, []byte) { return uint64(e.U32()), nil }}
}

func u64() read {
	return read{"U64", func(e *wire.Eye) (uint64, []byte) { return e.U64(), nil }}
}

func raw(n int) read {
	return read{"Raw", func(e *wire.Eye) (uint64, []byte) { return 0, e.Raw(n) }}
}

func short(most int) read {
	return read{"Short", func(e *wire.Eye) (uint64, []byte) { return 0, e.Short(most) }}
}

func long(most int) read {
	return read{"Long", func(e *wire.Eye) (uint64, []byte) { return 0, e.Long(most) }}
}

// P1.2: reads that go well: the result, and how much is left.
func TestEyeReads(t *testing.T) {
	b255, b256, b65535 := text(255), text(256), text(65535)
	tests := []struct {
		in     []byte
		read   read
		number uint64
		bytes  []byte
		left   int
	}{
		{[]byte{0}, u8(), 0, nil, 0},
		{[]byte{255, 9}, u8(), 255, nil, 1},
		{[]byte{1, 2}, u16(), 258, nil, 0},
		{[]byte{255, 255, 9}, u16(), 65535, nil, 1},
		{[]byte{1, 2, 3, 4}, u32(), 0x01020304, nil, 0},
		{[]byte{255, 255, 255, 255, 9}, u32(), 4294967295, nil, 1},
		{[]byte{1, 2, 3, 4, 5, 6, 7, 8}, u64(), 0x0102030405060708, nil, 0},
		{bytes.Repeat([]byte{255}, 9), u64(), math.MaxUint64, nil, 1},
		{nil, raw(0), 0, nil, 0},
		{[]byte("abc"), raw(0), 0, nil, 3},
		{[]byte("abc"), raw(2), 0, []byte("ab"), 1},
		{[]byte("abc"), raw(3), 0, []byte("abc"), 0},
		{[]byte{0}, short(0), 0, nil, 0},
		{[]byte{2, 'a', 'b', 'c'}, short(2), 0, []byte("ab"), 1},
		{[]byte{2, 'a', 'b', 'c'}, short(math.MaxInt), 0, []byte("ab"), 1},
		{join([]byte{255}, b255), short(255), 0, b255, 0},
		{[]byte{0, 0}, long(0), 0, nil, 0},
		{[]byte{0, 2, 'a', 'b', 'c'}, long(2), 0, []byte("ab"), 1},
		{[]byte{0, 2, 'a', 'b', 'c'}, long(math.MaxInt), 0, []byte("ab"), 1},
		{join([]byte{1, 0}, b256), long(256), 0, b256, 0},
		{join([]byte{255, 255}, b65535, []byte{9}), long(65535), 0, b65535, 1},
	}
	for i, x := range tests {
		e := wire.Open(x.in)
		n, b := x.read.call(e)
		if n != x.number || !bytes.Equal(b, x.bytes) || e.Err() != api.OK || e.Left() != x.left {
			t.Errorf("%d, %s: got %d, %d octets, error %v, left %d", i, x.read.name, n, len(b), e.Err(), e.Left())
		}
	}
}

// P1.2: reads that fail: which error, and that nothing is consumed.
func TestEyeFails(t *testing.T) {
	tests := []struct {
		in   []byte
		read read
		want api.Errno
	}{
		{nil, u8(), api.ErrShort},
		{nil, u16(), api.ErrShort},
		{make([]byte, 1), u16(), api.ErrShort},
		{make([]byte, 3), u32(), api.ErrShort},
		{make([]byte, 7), u64(), api.ErrShort},
		{[]byte{1, 2}, raw(3), api.ErrShort},
		{[]byte{1, 2}, raw(math.MaxInt), api.ErrShort},
		{[]byte{1, 2}, raw(-1), api.ErrArg},
		{nil, raw(-1), api.ErrArg},
		{[]byte{1, 2}, raw(math.MinInt), api.ErrArg},
		{nil, short(9), api.ErrShort},
		{nil, short(-1), api.ErrShort}, // there is no length that could exceed most
		{[]byte{3, 'a', 'b'}, short(3), api.ErrShort},
		{[]byte{3, 'a', 'b', 'c'}, short(2), api.ErrLong},
		{[]byte{3, 'a', 'b'}, short(2), api.ErrLong}, // the length stands before what is missing
		{[]byte{0}, short(-1), api.ErrLong},
		{[]byte{0}, short(math.MinInt), api.ErrLong},
		{join([]byte{255}, text(255)), short(254), api.ErrLong},
		{nil, long(9), api.ErrShort},
		{[]byte{0}, long(9), api.ErrShort},
		{[]byte{9}, long(-1), api.ErrShort},
		{[]byte{0, 3, 'a', 'b'}, long(3), api.ErrShort},
		{[]byte{0, 3, 'a', 'b', 'c'}, long(2), api.ErrLong},
		{[]byte{0, 3, 'a', 'b'}, long(2), api.ErrLong},
		{[]byte{0, 0}, long(-1), api.ErrLong},
		{join([]byte{255, 255}, text(65534)), long(65535), api.ErrShort},
		{join([]byte{255, 255}, text(65535)), long(65534), api.ErrLong},
	}
	for i, x := range tests {
		e := wire.Open(x.in)
		n, b := x.read.call(e)
		if n != 0 || len(b) != 0 || e.Err() != x.want || e.End() != x.want || e.Left() != len(x.in) {
			t.Errorf("%d, %s: got %d, %x, error %v, left %d", i, x.read.name, n, b, e.Err(), e.Left())
		}
	}
}

// P1.2: a read that fails in the middle leaves the eye where it was.
func TestFailedReadConsumesNothingFurther(t *testing.T) {
	for _, r := range []read{u64(), raw(5), raw(-1), short(4), short(1), long(600), long(2000)} {
		e := wire.Open([]byte{7, 4, 1, 1, 1})
		e.U8()
		r.call(e)
		if e.Err() == api.OK || e.Left() != 4 {
			t.Errorf("%s: error %v, left %d", r.name, e.Err(), e.Left())
		}
	}
}

// P1.2: with an error every read returns nothing, consumes nothing and keeps
// the error, also where it would have gone well or failed otherwise.
func TestReadsAfterTheFirstError(t *testing.T) {
	reads := []read{u8(), u16(), u32(), u64(), raw(0), raw(1), raw(-1), raw(99), short(1), short(0), short(-1), long(999), long(0)}
	for _, first := range []api.Errno{api.ErrShort, api.ErrLong, api.ErrArg, api.ErrForm, api.ErrTrail, -5} {
		for _, r := range reads {
			e := wire.Open(bytes.Repeat([]byte{1}, 300))
			e.Fail(first)
			n, b := r.call(e)
			if n != 0 || len(b) != 0 || e.Err() != first || e.End() != first || e.Left() != 300 {
				t.Errorf("%s after %v: got %d, %x, error %v, left %d", r.name, first, n, b, e.Err(), e.Left())
			}
		}
	}
}

// P1.2: the error of a failed read, too, is there for good.
func TestFailedReadStays(t *testing.T) {
	e := wire.Open([]byte{1, 2, 3})
	e.U64()
	if e.U8() != 0 || len(e.Raw(1)) != 0 || len(e.Raw(-1)) != 0 || len(e.Short(0)) != 0 || e.Err() != api.ErrShort || e.Left() != 3 {
		t.Errorf("error %v, left %d", e.Err(), e.Left())
	}
}

// P1.2: Fail sets the error once, and never to OK.
func TestFail(t *testing.T) {
	e := wire.Open([]byte{7})
	e.Fail(api.OK)
	if e.Err() != api.OK || e.U8() != 7 {
		t.Errorf("Fail of OK: %v", e.Err())
	}
	e.Fail(api.ErrForm)
	e.Fail(api.ErrAuth)
	e.Fail(api.OK)
	if e.Err() != api.ErrForm || e.End() != api.ErrForm {
		t.Errorf("Fail again: %v", e.Err())
	}
	e = wire.Open(nil)
	e.U8()
	e.Fail(api.ErrForm)
	if e.Err() != api.ErrShort {
		t.Errorf("Fail after a failed read: %v", e.Err())
	}
}

// P1.2: End tells octets that are left, but does not make them the error.
func TestEnd(t *testing.T) {
	e := wire.Open(nil)
	if e.End() != api.OK || e.Err() != api.OK || e.Left() != 0 {
		t.Errorf("nothing: %v", e.End())
	}
	e = wire.Open([]byte{1, 2})
	if e.Left() != 2 || e.End() != api.ErrTrail || e.Err() != api.OK {
		t.Errorf("two left: %v, %v", e.End(), e.Err())
	}
	if e.U8() != 1 || e.End() != api.ErrTrail || e.Left() != 1 {
		t.Errorf("one left: %v", e.End())
	}
	if e.U8() != 2 || e.End() != api.OK || e.Left() != 0 {
		t.Errorf("none left: %v", e.End())
	}
}

// roundTrip writes random values and returns checks that read them back.
func roundTrip(r *rand.Rand, p *wire.Pen) []func(e *wire.Eye) bool {
	var checks []func(e *wire.Eye) bool
	for range r.Intn(40) {
		n := r.Uint64() >> r.Intn(64)
		b := text(r.Intn(300))
		switch r.Intn(7) {
		case 0:
			p.U8(int(n & 255))
			checks = append(checks, func(e *wire.Eye) bool { return e.U8() == int(n&255) })
		case 1:
			p.U16(int(n & 65535))
			checks = append(checks, func(e *wire.Eye) bool { return e.U16() == int(n&65535) })
		case 2:
			p.U32(int(n & 4294967295))
			checks = append(checks, func(e *wire.Eye) bool { return e.U32() == int(n&4294967295) })
		case 3:
			p.U64(n)
			checks = append(checks, func(e *wire.Eye) bool { return e.U64() == n })
		case 4:
			p.Raw(b)
			checks = append(checks, func(e *wire.Eye) bool { return bytes.Equal(e.Raw(len(b)), b) })
		case 5:
			b = b[:min(len(b), 255)]
			p.Short(b)
			checks = append(checks, func(e *wire.Eye) bool { return bytes.Equal(e.Short(len(b)), b) })
		case 6:
			p.Long(b)
			checks = append(checks, func(e *wire.Eye) bool { return bytes.Equal(e.Long(len(b)), b) })
		}
	}
	return checks
}

// P1.3: written values are read back in order.
func TestRoundTrip(t *testing.T) {
	r := rand.New(rand.NewSource(1))
	for i := range 500 {
		p := wire.New()
		checks := roundTrip(r, p)
		b, ok := p.Bytes()
		if !ok {
			t.Fatalf("%d: a bad pen", i)
		}
		e := wire.Open(b)
		for k, check := range checks {
			if !check(e) {
				t.Fatalf("%d: value %d is another one (error %v)", i, k, e.Err())
			}
		}
		if e.End() != api.OK {
			t.Fatalf("%d: %v", i, e.End())
		}
	}
}

// spoil changes b and its spare capacity.
func spoil(b []byte) {
	b = b[:cap(b)]
	for i := range b {
		b[i] ^= 255
	}
}

// roomy is a copy of s in a slice whose spare capacity holds something.
func roomy(s string) []byte {
	b := bytes.Repeat([]byte{'#'}, len(s)+16)
	copy(b, s)
	return b[:len(s)]
}

// P1.3: a pen neither keeps nor changes what it is given.
func TestPenArguments(t *testing.T) {
	for i, write := range []func(p *wire.Pen, b []byte){(*wire.Pen).Raw, (*wire.Pen).Short, (*wire.Pen).Long} {
		b := roomy("abc")
		p := wire.New()
		write(p, b)
		p.Raw([]byte("behind"))
		if string(b[:cap(b)]) != "abc################" {
			t.Errorf("%d: the argument became %q", i, b[:cap(b)])
		}
		before, _ := p.Bytes()
		spoil(b)
		after, ok := p.Bytes()
		if !ok || !bytes.HasSuffix(after, []byte("abcbehind")) || !bytes.Equal(before, after) {
			t.Errorf("%d: the pen kept the argument: %q", i, after)
		}
	}
}

// P1.3: what Bytes returned shares no memory with the pen or another result.
func TestBytesIsNewMemory(t *testing.T) {
	p := wire.New()
	p.Raw([]byte("abc"))
	first, _ := p.Bytes()
	second, _ := p.Bytes()
	spoil(first)
	third, _ := p.Bytes()
	if string(second) != "abc" || string(third) != "abc" {
		t.Errorf("got %q, %q", second, third)
	}
	p.Raw([]byte("def"))
	spoil(second)
	if b, _ := p.Bytes(); string(b) != "abcdef" || string(third) != "abc" {
		t.Errorf("got %q, %q", b, third)
	}
}

// P1.3: an eye neither keeps nor changes what it is given.
func TestEyeArgument(t *testing.T) {
	b := roomy("a\x01b\x00\x01cde")
	e := wire.Open(b)
	spoil(b)
	if e.U8() != 'a' || string(e.Short(9)) != "b" || string(e.Long(9)) != "c" || string(e.Raw(2)) != "de" || e.End() != api.OK {
		t.Errorf("the eye kept the argument: %v", e.Err())
	}
	b = roomy("\x01bcd")
	e = wire.Open(b)
	spoil(e.Short(1))
	spoil(e.Raw(2))
	if string(b[:cap(b)]) != "\x01bcd################" {
		t.Errorf("the argument became %q", b[:cap(b)])
	}
}

// P1.3: what an eye returned shares no memory with what it still reads, nor
// with another result.
func TestReadsAreNewMemory(t *testing.T) {
	for _, r := range []read{raw(2), raw(0), short(9), long(999)} {
		in := []byte{0, 2, 'a', 'b', 'c', 'd', 'e'}
		if r.name == "Short" {
			in = in[1:]
		}
		e := wire.Open(in)
		_, b := r.call(e)
		left := e.Left()
		spoil(b)
		_ = append(b, "overwritten"...)
		if rest := e.Raw(left); !bytes.Equal(rest, in[len(in)-left:]) {
			t.Errorf("%s: then %q", r.name, rest)
		}
	}
	e := wire.Open([]byte("abcd"))
	first, second := e.Raw(2), e.Raw(2)
	spoil(first)
	if string(second) != "cd" {
		t.Errorf("got %q", second)
	}
}

// FuzzText holds every text read against what the document says of it.
func FuzzText(f *testing.F) {
	f.Add([]byte{2, 'a', 'b'}, 2, false)
	f.Add([]byte{0, 2, 'a', 'b'}, 1, true)
	f.Fuzz(func(t *testing.T, in []byte, most int, isLong bool) {
		e, size := wire.Open(in), 1
		call := e.Short
		if isLong {
			size, call = 2, e.Long
		}
		got := call(most)
		n := 0
		for _, b := range in[:min(size, len(in))] {
			n = n<<8 | int(b)
		}
		want, left, fault := []byte(nil), len(in), api.OK
		switch {
		case len(in) < size:
			fault = api.ErrShort
		case n > most:
			fault = api.ErrLong
		case len(in)-size < n:
			fault = api.ErrShort
		default:
			want, left = in[size:size+n], len(in)-size-n
		}
		if !bytes.Equal(got, want) || e.Left() != left || e.Err() != fault {
			t.Errorf("got %x, left %d, error %v", got, e.Left(), e.Err())
		}
	})
}
