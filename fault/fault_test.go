package fault_test

import (
	"errors"
	"math"
	"math/rand"
	"slices"
	"strconv"
	"strings"
	"testing"
	"time"

	"engrosser/api"
	"engrosser/fault"
)

// constants are api's numbers, as the document lists them.
var constants = []struct {
	number api.Errno
	value  int
}{
	{api.OK, 0}, {api.ErrNil, 1}, {api.ErrArg, 2}, {api.ErrShort, 10}, {api.ErrLong, 11}, {api.ErrForm, 12},
	{api.ErrTrail, 13}, {api.ErrAuth, 14}, {api.ErrRange, 20}, {api.ErrFull, 21}, {api.ErrPower, 22},
	{api.ErrSum, 23}, {api.ErrChain, 24}, {api.ErrKey, 30}, {api.ErrTaken, 31}, {api.ErrTree, 40},
	{api.ErrGroup, 41}, {api.ErrEpoch, 42}, {api.ErrSender, 43}, {api.ErrProposal, 44}, {api.ErrPath, 45},
	{api.ErrTag, 46}, {api.ErrLimit, 47}, {api.ErrNone, 50}, {api.ErrKnown, 51},
}

// numbers are those of the constants but OK, ones that no constant has, and
// negative ones.
func numbers() []api.Errno {
	list := []api.Errno{3, 9, 15, 29, 52, 255, 256, 1 << 32, math.MaxInt, -1, -2, -23, -1 << 32, math.MinInt}
	for _, c := range constants {
		if c.number != api.OK {
			list = append(list, c.number)
		}
	}
	return list
}

// positions are some, with the text that each has.
var positions = []struct {
	at   int
	text string
}{
	{0, "0"}, {1, "1"}, {-1, "-1"}, {7, "7"}, {10, "10"}, {-10, "-10"}, {128, "128"}, {65536, "65536"},
	{1 << 40, "1099511627776"}, {math.MaxInt, "9223372036854775807"}, {math.MinInt, "-9223372036854775808"},
}

var operations = []string{
	"", "a", "open", "Open", " ", "two words", " open", "open ", ":", "a: b", "a 1: ", "%d", "%!s(MISSING)", "a\nb", "\t",
	"\x00", "\xff\xfe", "a\xc3", "\xe2\x82", "ä€", strings.Repeat("long", 300),
}

// outside is an error of another type, with something inside.
type outside struct{ inside error }

func (o outside) Error() string { return "outside" }
func (o outside) Unwrap() error { return o.inside }

// joined is one with several errors inside.
type joined struct{ inside []error }

func (j joined) Error() string   { return "joined" }
func (j joined) Unwrap() []error { return j.inside }

// liar is one that says to be each number and each fault.
type liar struct{}

func (liar) Error() string   { return "liar" }
func (liar) Is(_ error) bool { return true }
func (liar) As(target any) bool {
	switch t := target.(type) {
	case *api.Errno:
		*t = api.ErrKey
	case **fault.Fault:
		*t = &fault.Fault{Op: "lie", At: 9, Err: api.ErrKey}
	}
	return true
}

// endless is one that has itself inside.
type endless struct{}

func (endless) Error() string { return "endless" }
func (endless) Unwrap() error { return endless{} }

// grumpy is one all of whose methods panic.
type grumpy struct{}

func (grumpy) Error() string   { panic("Error") }
func (grumpy) Is(_ error) bool { panic("Is") }
func (grumpy) As(_ any) bool   { panic("As") }
func (grumpy) Unwrap() error   { panic("Unwrap") }

// pointed is one whose nil pointer has no text.
type pointed struct{ name string }

func (p *pointed) Error() string { return "pointed " + p.name }

// words is one that can't be compared.
type words []string

func (w words) Error() string { return strings.Join(w, " ") }

// own is a number of another type.
type own int

func (o own) Error() string { return "own " + strconv.Itoa(int(o)) }

// holder is one that has a fault's methods, but is none.
type holder struct{ *fault.Fault }

// strangers are errors of other types, with their texts. What is inside of some
// isn't wrapped in them.
func strangers() map[string]error {
	inner := fault.Wrap("in", 5, api.ErrSum)
	number := api.ErrSum
	return map[string]error{
		"made":                      errors.New("made"),
		"":                          errors.New(""),
		"outside":                   outside{api.ErrSum},
		"pointed x":                 &pointed{"x"},
		"some words":                words{"some", "words"},
		"own 23":                    own(23),
		"in 5: engrosser: error 23": holder{inner.(*fault.Fault)},
		"engrosser: error 23":       &number,
		"liar":                      liar{},
		"endless":                   endless{},
		"joined":                    joined{[]error{api.ErrSum, inner}},
		"engrosser: error 23\nin 5: engrosser: error 23": errors.Join(api.ErrSum, inner),
	}
}

// insides are errors of one other type, with what is inside of them.
func insides() []error {
	return []error{
		outside{nil}, outside{api.ErrSum}, outside{api.OK}, outside{fault.Wrap("in", 5, api.ErrSum)},
		outside{outside{fault.Again("in", 5, fault.Wrap("in", 6, api.ErrSum))}}, outside{(*fault.Fault)(nil)},
	}
}

// textless are errors of other types that have no text.
func textless() []error {
	return []error{(*pointed)(nil), (*outside)(nil), (*api.Errno)(nil), grumpy{}, holder{}}
}

// unnumbered are all errors of other types.
func unnumbered() []error {
	list := append(insides(), textless()...)
	for _, err := range strangers() {
		list = append(list, err)
	}
	return list
}

// chain is err behind n faults with the operations "1", "2" and so on, the
// outermost first, at ten times their numbers.
func chain(n int, err error) error {
	for i := n; i > 0; i-- {
		err = &fault.Fault{Op: strconv.Itoa(i), At: 10 * i, Err: err}
	}
	return err
}

// one is the fault that err is.
func one(t *testing.T, err error) *fault.Fault {
	t.Helper()
	f, ok := err.(*fault.Fault)
	if !ok || f == nil {
		t.Fatalf("%#v is no fault", err)
	}
	return f
}

// same tells whether two errors are the same one, also if they can't be compared.
func same(a, b error) bool {
	v, ok := a.(words)
	w, too := b.(words)
	if ok || too {
		return ok && too && slices.Equal(v, w)
	}
	if _, ok := a.(joined); ok {
		_, ok = b.(joined)
		return ok
	}
	return a == b
}

// ends fails if a call doesn't end.
func ends(t *testing.T, what string, call func()) {
	t.Helper()
	done := make(chan any)
	go func() {
		defer func() { done <- recover() }()
		call()
	}()
	select {
	case p := <-done:
		if p != nil {
			t.Errorf("%s panics: %v", what, p)
		}
	case <-time.After(10 * time.Second):
		t.Fatalf("%s doesn't end", what)
	}
}

// checkText holds an error's text against what it has to be.
func checkText(t *testing.T, err error, want string) {
	t.Helper()
	if got := err.Error(); got != want {
		t.Errorf("text %q, want %q", got, want)
	}
}

// checkNumber asks Code and Is about an error in which one number is wrapped.
func checkNumber(t *testing.T, err error, want api.Errno) {
	t.Helper()
	if got := fault.Code(err); got != want {
		t.Errorf("Code(%v) = %d, want %d", err, got, want)
	}
	for _, e := range append(numbers(), api.OK) {
		if got := fault.Is(err, e); got != (e == want) {
			t.Errorf("Is(%v, %d) = %v", err, e, got)
		}
	}
}

// checkNoNumber asks Code and Is about an error in which no number is wrapped.
func checkNoNumber(t *testing.T, err error) {
	t.Helper()
	if got := fault.Code(err); got != api.OK {
		t.Errorf("Code(%T) = %d", err, got)
	}
	for _, e := range append(numbers(), api.OK) {
		if fault.Is(err, e) {
			t.Errorf("Is(%T, %d)", err, e)
		}
	}
}

// checkPlace asks for the position of an operation that there is.
func checkPlace(t *testing.T, err error, op string, want int) {
	t.Helper()
	if at, ok := fault.Place(err, op); at != want || !ok {
		t.Errorf("Place(%v, %q) = %d, %v, want %d", err, op, at, ok, want)
	}
}

// checkNoPlace asks for the position of an operation that there isn't.
func checkNoPlace(t *testing.T, err error, op string) {
	t.Helper()
	if at, ok := fault.Place(err, op); at != 0 || ok {
		t.Errorf("Place(%T, %q) = %d, %v", err, op, at, ok)
	}
}

// checkOps holds the operations of an error against what they have to be.
func checkOps(t *testing.T, err error, want ...string) {
	t.Helper()
	if got := fault.Ops(err); !slices.Equal(got, want) {
		t.Errorf("Ops(%T) = %q, want %q", err, got, want)
	}
}

// P9.1: the chapter's example.
func TestExample(t *testing.T) {
	checkText(t, fault.Again("open", 3, fault.Wrap("read", 7, api.ErrSum)), "open 3: read 7: engrosser: error 23")
}

// P9.1: Wrap of OK is nil, as an error.
func TestWrapNothing(t *testing.T) {
	for _, op := range operations {
		for _, p := range positions {
			if err := fault.Wrap(op, p.at, api.OK); err != nil {
				t.Errorf("Wrap(%q, %d, OK) = %#v", op, p.at, err)
			}
		}
	}
}

// P9.1: Wrap of each other number is a fault of it, with its operation and position.
func TestWrap(t *testing.T) {
	for _, e := range numbers() {
		for _, op := range operations {
			for _, p := range positions {
				f := one(t, fault.Wrap(op, p.at, e))
				if f.Op != op || f.At != p.at || f.Err != error(e) {
					t.Errorf("Wrap(%q, %d, %d) = %#v", op, p.at, e, f)
				}
				checkText(t, f, op+" "+p.text+": "+e.Error())
			}
		}
	}
}

// P9.1: Again of nil is nil, as an error.
func TestAgainNothing(t *testing.T) {
	for _, op := range operations {
		for _, p := range positions {
			if err := fault.Again(op, p.at, nil); err != nil {
				t.Errorf("Again(%q, %d, nil) = %#v", op, p.at, err)
			}
		}
	}
	if err := fault.Again("a", 1, fault.Wrap("b", 2, api.OK)); err != nil {
		t.Errorf("Again of Wrap of OK: %#v", err)
	}
	if err := fault.Again("a", 1, fault.Again("b", 2, nil)); err != nil {
		t.Errorf("Again of Again of nil: %#v", err)
	}
}

// P9.1: Again of whatever else is a fault of it: a number (OK too, which is an
// error that isn't nil), a fault, also one that wraps nothing and a nil one, and
// an error of another type.
func TestAgain(t *testing.T) {
	list := append(unnumbered(), api.OK, fault.Wrap("in", 5, api.ErrSum), chain(9, api.ErrKey), chain(2, nil), &fault.Fault{}, (*fault.Fault)(nil))
	for _, e := range numbers() {
		list = append(list, e)
	}
	for _, err := range list {
		for _, op := range operations {
			for _, p := range positions {
				f := one(t, fault.Again(op, p.at, err))
				if f.Op != op || f.At != p.at || !same(f.Err, err) || !same(f.Unwrap(), err) {
					t.Errorf("Again(%q, %d, %T) = %q, %d, %T", op, p.at, err, f.Op, f.At, f.Err)
				}
			}
		}
	}
}

// P9.1: the text of what wraps each constant, written out.
func TestTextOfNumbers(t *testing.T) {
	for _, c := range constants {
		checkText(t, fault.Again("a", 1, c.number), "a 1: engrosser: error "+strconv.Itoa(c.value))
	}
	checkText(t, fault.Wrap("a", 1, 1234), "a 1: engrosser: error 1234")
	checkText(t, fault.Wrap("a", 1, math.MaxInt), "a 1: engrosser: error 9223372036854775807")
	checkText(t, fault.Wrap("a", 1, -1), "a 1: engrosser: error")
	checkText(t, fault.Wrap("a", 1, math.MinInt), "a 1: engrosser: error")
}

// P9.1: a text has the operation and the position as they are.
func TestText(t *testing.T) {
	for _, op := range operations {
		for _, p := range positions {
			head := op + " " + p.text + ": "
			checkText(t, &fault.Fault{Op: op, At: p.at}, head)
			checkText(t, fault.Wrap(op, p.at, api.ErrSum), head+"engrosser: error 23")
			checkText(t, fault.Again(op, p.at, errors.New(op)), head+op)
			checkText(t, fault.Again(op, p.at, fault.Again(op, p.at, api.ErrSum)), head+head+"engrosser: error 23")
		}
	}
}

// P9.1: nothing is the text of what isn't there.
func TestTextOfNothing(t *testing.T) {
	var none *fault.Fault
	checkText(t, none, "")
	checkText(t, &fault.Fault{}, " 0: ")
	checkText(t, &fault.Fault{Op: "a", At: 1}, "a 1: ")
	checkText(t, fault.Again("a", 1, none), "a 1: ")
	checkText(t, fault.Again("a", 1, fault.Again("b", 2, none)), "a 1: b 2: ")
	checkText(t, fault.Again("a", 1, &fault.Fault{Op: "b", At: 2}), "a 1: b 2: ")
	checkText(t, fault.Again("a", 1, &fault.Fault{}), "a 1:  0: ")
}

// P9.1: errors of other types tell their texts, and faults inside of them too.
func TestTextOfStrangers(t *testing.T) {
	for want, err := range strangers() {
		checkText(t, fault.Again("a", 1, err), "a 1: "+want)
		checkText(t, fault.Again("b", -2, fault.Again("a", 1, err)), "b -2: a 1: "+want)
	}
	both := errors.Join(fault.Wrap("b", 2, api.ErrKey), fault.Wrap("c", 3, api.ErrSum))
	checkText(t, fault.Again("a", 1, both), "a 1: b 2: engrosser: error 30\nc 3: engrosser: error 23")
}

// P9.1: an error of another type that has no text (most have an Error that
// panics) adds none.
func TestTextOfTextless(t *testing.T) {
	for _, err := range textless() {
		ends(t, "Error", func() {
			f := fault.Again("a", 1, err)
			checkText(t, f, "a 1: ")
			checkText(t, fault.Again("b", 2, f), "b 2: a 1: ")
		})
	}
}

// P9.1: the text of each link of a chain, and what each one wraps.
func TestLinks(t *testing.T) {
	const n = 40
	list := []error{chain(n, api.ErrTag)}
	for i := range n {
		f := one(t, list[i])
		if f.Op != strconv.Itoa(i+1) || f.At != 10*(i+1) {
			t.Errorf("link %d: %q, %d", i, f.Op, f.At)
		}
		list = append(list, f.Unwrap())
	}
	if list[n] != error(api.ErrTag) {
		t.Errorf("at the end: %#v", list[n])
	}
	want := "engrosser: error 46"
	for i := n; i >= 0; i-- {
		checkText(t, list[i], want)
		want = strconv.Itoa(i) + " " + strconv.Itoa(10*i) + ": " + want
	}
}

// P9.1: Unwrap of a nil fault and of one that wraps nothing is nil, as an error.
func TestUnwrap(t *testing.T) {
	var none *fault.Fault
	if err := none.Unwrap(); err != nil {
		t.Errorf("of a nil fault: %#v", err)
	}
	if err := (&fault.Fault{Op: "a", At: 1}).Unwrap(); err != nil {
		t.Errorf("of one that wraps nothing: %#v", err)
	}
	if err := one(t, fault.Again("a", 1, none)).Unwrap(); err == nil || err != error(none) {
		t.Errorf("of one that wraps a nil fault: %#v", err)
	}
	if err := one(t, fault.Again("a", 1, api.OK)).Unwrap(); err == nil || err != error(api.OK) {
		t.Errorf("of one that wraps OK: %#v", err)
	}
	if errors.Unwrap(fault.Wrap("a", 1, api.ErrSum)) != error(api.ErrSum) {
		t.Error("errors.Unwrap")
	}
}

// P9.2: nothing is wrapped in nil.
func TestNil(t *testing.T) {
	checkNoNumber(t, nil)
	checkOps(t, nil)
	for _, op := range operations {
		checkNoPlace(t, nil, op)
	}
}

// P9.2: a number is wrapped in itself and in all faults around it.
func TestNumbers(t *testing.T) {
	for _, e := range append(numbers(), api.OK) {
		checkNumber(t, e, e)
		checkNumber(t, fault.Again("a", 1, e), e)
		for _, n := range []int{2, 3, 4, 5, 8, 9, 100} {
			checkNumber(t, chain(n, e), e)
		}
		checkOps(t, e)
		checkNoPlace(t, e, "")
		checkNoPlace(t, e, "a")
	}
	for _, e := range numbers() {
		checkNumber(t, fault.Wrap("a", 1, e), e)
	}
}

// P9.2: no number is wrapped in faults that wrap nothing or a nil fault.
func TestNoNumber(t *testing.T) {
	var none *fault.Fault
	checkNoNumber(t, none)
	checkNoNumber(t, &fault.Fault{})
	checkNoNumber(t, &fault.Fault{Op: "engrosser: error 23", At: 23})
	for _, n := range []int{1, 2, 3, 4, 5, 8, 9, 100} {
		checkNoNumber(t, chain(n, nil))
		checkNoNumber(t, chain(n, none))
	}
}

// P9.2: by the chapter's definition, what an error of another type has inside
// isn't wrapped in it, whatever its own methods say.
func TestStrangers(t *testing.T) {
	for _, err := range unnumbered() {
		ends(t, "a call", func() {
			checkNoNumber(t, err)
			checkOps(t, err)
			for _, op := range []string{"", "in", "lie", "outside"} {
				checkNoPlace(t, err, op)
			}
		})
		for _, n := range []int{1, 2, 5} {
			ends(t, "a call", func() {
				around := chain(n, err)
				checkNoNumber(t, around)
				checkOps(t, around, []string{"1", "2", "3", "4", "5"}[:n]...)
				checkPlace(t, around, strconv.Itoa(n), 10*n)
				for _, op := range []string{"", "in", "lie", "outside"} {
					checkNoPlace(t, around, op)
				}
			})
		}
	}
}

// P9.2: the outermost fault with an operation is what Place tells.
func TestPlace(t *testing.T) {
	err := fault.Again("open", 3, fault.Again("read", -7, fault.Again("open", 5, fault.Again("", 0, fault.Wrap("sum", 9, api.ErrSum)))))
	checkPlace(t, err, "open", 3)
	checkPlace(t, err, "read", -7)
	checkPlace(t, err, "", 0)
	checkPlace(t, err, "sum", 9)
	for _, op := range []string{"write", "Open", "ope", "open ", " open", "open 3", "openread", ":", "engrosser"} {
		checkNoPlace(t, err, op)
	}
	inner := one(t, one(t, err).Err).Err
	checkPlace(t, inner, "open", 5)
	checkNoPlace(t, inner, "read")
	checkNoPlace(t, fault.Wrap("a", 1, api.ErrSum), "")
	checkPlace(t, fault.Again("x", 1, fault.Wrap("x", 1, api.ErrSum)), "x", 1)
}

// P9.2: Place tells each position, of each operation, also of faults that wrap nothing.
func TestPlaces(t *testing.T) {
	for _, op := range operations {
		for _, p := range positions {
			checkPlace(t, fault.Wrap(op, p.at, api.ErrSum), op, p.at)
			checkPlace(t, &fault.Fault{Op: op, At: p.at}, op, p.at)
			checkPlace(t, fault.Again("before", 77, &fault.Fault{Op: op, At: p.at}), op, p.at)
			checkPlace(t, fault.Again(op, p.at, fault.Wrap(op, 77, api.ErrSum)), op, p.at)
			checkNoPlace(t, fault.Wrap(op, p.at, api.ErrSum), op+"x")
		}
	}
	for i := 1; i <= 100; i++ {
		checkPlace(t, chain(100, api.ErrSum), strconv.Itoa(i), 10*i)
	}
	checkNoPlace(t, chain(100, api.ErrSum), "101")
}

// P9.2: Ops tells each fault's operation, the outermost first.
func TestOps(t *testing.T) {
	var none *fault.Fault
	for _, op := range operations {
		checkOps(t, fault.Wrap(op, 1, api.ErrSum), op)
		checkOps(t, &fault.Fault{Op: op}, op)
		checkOps(t, fault.Again(op, 1, fault.Wrap(op, 1, api.ErrSum)), op, op)
	}
	checkOps(t, fault.Again("a", 1, fault.Again("b", 2, fault.Again("a", 1, fault.Wrap("c", 0, api.OK)))))
	checkOps(t, fault.Again("a", 1, fault.Again("b", 2, fault.Again("a", 1, fault.Wrap("c", 0, api.ErrKey)))), "a", "b", "a", "c")
	checkOps(t, fault.Again("a", 1, none), "a")
	checkOps(t, none)
	checkNoPlace(t, none, "")
	checkNoPlace(t, fault.Again("a", 1, none), "")
}

// P9.1, P9.2 and P9.3: chains of many links.
func TestManyLinks(t *testing.T) {
	const n = 1 << 16
	var ops []string
	var text strings.Builder
	for i := 1; i <= n; i++ {
		ops = append(ops, strconv.Itoa(i))
		text.WriteString(strconv.Itoa(i) + " " + strconv.Itoa(10*i) + ": ")
	}
	ends(t, "a call", func() {
		err := chain(n, api.ErrLimit)
		if err.Error() != text.String()+"engrosser: error 47" {
			t.Error("another text")
		}
		if fault.Code(err) != api.ErrLimit || !fault.Is(err, api.ErrLimit) || fault.Is(err, api.ErrFull) {
			t.Error("another number")
		}
		if at, ok := fault.Place(err, strconv.Itoa(n)); at != 10*n || !ok {
			t.Errorf("another position: %d, %v", at, ok)
		}
		checkNoPlace(t, err, "0")
		if !slices.Equal(fault.Ops(err), ops) {
			t.Error("other operations")
		}
		if !errors.Is(err, api.ErrLimit) || errors.Is(err, api.ErrFull) {
			t.Error("errors.Is")
		}
	})
}

// some is an error without a pattern, and the operations and positions of the
// faults in it, its text, and the number in it, if there is one.
func some(r *rand.Rand) (err error, list []fault.Fault, text string, number api.Errno, ok bool) {
	switch r.Intn(5) {
	case 0:
		number, ok = api.Errno(r.Intn(60)-5), true
		err, text = number, number.Error()
	case 1:
		err, text = outside{fault.Wrap("b", 4, api.ErrSum)}, "outside"
	case 2:
		err = (*fault.Fault)(nil)
	case 3:
		err, text = errors.New("made"), "made"
	}
	for range r.Intn(12) {
		f := fault.Fault{Op: string(rune('a' + r.Intn(4))), At: r.Intn(9) - 4, Err: err}
		list = append([]fault.Fault{f}, list...)
		text = f.Op + " " + strconv.Itoa(f.At) + ": " + text
		err = &f
	}
	return err, list, text, number, ok
}

// P9.1 and P9.2: chains without a pattern.
func TestSome(t *testing.T) {
	r := rand.New(rand.NewSource(9))
	for range 3000 {
		err, list, text, number, ok := some(r)
		if err != nil {
			checkText(t, err, text)
		}
		if ok {
			checkNumber(t, err, number)
		} else {
			checkNoNumber(t, err)
		}
		var ops []string
		places := map[string]int{}
		for _, f := range list {
			ops = append(ops, f.Op)
			if _, ok := places[f.Op]; !ok {
				places[f.Op] = f.At
			}
		}
		checkOps(t, err, ops...)
		for _, op := range []string{"a", "b", "c", "d", ""} {
			if at, ok := places[op]; ok {
				checkPlace(t, err, op, at)
			} else {
				checkNoPlace(t, err, op)
			}
		}
	}
}

// P9.3: errors.Is finds the number that is wrapped, and no other one.
func TestErrorsIs(t *testing.T) {
	for _, e := range append(numbers(), api.OK) {
		for _, n := range []int{0, 1, 2, 3, 50} {
			for _, other := range append(numbers(), api.OK) {
				if got := errors.Is(chain(n, e), other); got != (e == other) {
					t.Errorf("%d behind %d faults: errors.Is for %d is %v", e, n, other, got)
				}
			}
		}
		if e != api.OK && !errors.Is(fault.Again("b", 2, fault.Wrap("a", 1, e)), e) {
			t.Errorf("%d isn't found", e)
		}
	}
	for _, e := range append(numbers(), api.OK) {
		if errors.Is(chain(3, nil), e) || errors.Is(chain(3, (*fault.Fault)(nil)), e) || errors.Is((*fault.Fault)(nil), e) {
			t.Errorf("%d is found in nothing", e)
		}
	}
}

// P9.3: errors.Is also finds each fault itself, and an error of another type.
func TestErrorsIsFault(t *testing.T) {
	last := errors.New("last")
	err := chain(5, last)
	for link := err; link != nil; link = errors.Unwrap(link) {
		if !errors.Is(err, link) {
			t.Errorf("%v isn't found", link)
		}
	}
	if !errors.Is(err, last) || errors.Is(err, errors.New("last")) || errors.Is(err, chain(5, last)) {
		t.Error("errors.Is")
	}
}

// P9.3: errors.As finds each number, behind any number of faults.
func TestErrorsAsNumber(t *testing.T) {
	for _, e := range append(numbers(), api.OK) {
		for _, n := range []int{0, 1, 2, 3, 50} {
			got := api.Errno(-77)
			if !errors.As(chain(n, e), &got) || got != e {
				t.Errorf("%d behind %d faults: %d", e, n, got)
			}
		}
	}
	for _, err := range []error{chain(3, nil), chain(3, (*fault.Fault)(nil)), chain(3, errors.New("made")), (*fault.Fault)(nil)} {
		got := api.Errno(-77)
		if errors.As(err, &got) || got != -77 {
			t.Errorf("%v: found %d", err, got)
		}
	}
}

// P9.3: errors.As finds each fault, the outermost first.
func TestErrorsAsFault(t *testing.T) {
	for _, last := range []error{api.ErrSum, nil, errors.New("made"), api.OK} {
		err := chain(9, last)
		for i := 1; i <= 9; i++ {
			var f *fault.Fault
			if !errors.As(err, &f) || error(f) != err || f.Op != strconv.Itoa(i) || f.At != 10*i {
				t.Fatalf("fault %d: %#v", i, f)
			}
			err = f.Unwrap()
		}
		var f *fault.Fault
		if errors.As(err, &f) {
			t.Errorf("a tenth fault: %#v", f)
		}
	}
	var f *fault.Fault
	if errors.As(error(api.ErrSum), &f) {
		t.Error("a number is a fault")
	}
	if !errors.As(outside{fault.Wrap("in", 5, api.ErrSum)}, &f) || f.At != 5 {
		t.Error("a fault inside another error isn't found")
	}
}

// P9.3: errors.As finds an error of another type behind faults.
func TestErrorsAsStranger(t *testing.T) {
	var p *pointed
	if !errors.As(chain(4, &pointed{"x"}), &p) || p.name != "x" {
		t.Errorf("%#v", p)
	}
}

// checkCircle asks about faults with the operations "1", "2" and so on, of
// which the last one wraps one of them again.
func checkCircle(t *testing.T, n, back int) {
	t.Helper()
	err := chain(n, nil)
	links := []*fault.Fault{one(t, err)}
	for links[len(links)-1].Err != nil {
		links = append(links, one(t, links[len(links)-1].Err))
	}
	links[n-1].Err = links[back]
	var ops []string
	text := ""
	for _, f := range links {
		ops = append(ops, f.Op)
		text += f.Op + " " + strconv.Itoa(f.At) + ": "
	}
	checkOps(t, err, ops...)
	checkText(t, err, text)
	checkPlace(t, err, strconv.Itoa(n), 10*n)
	checkNoPlace(t, err, "0")
	checkNoPlace(t, err, "")
	if fault.Code(err) != api.OK || fault.Is(err, api.OK) || fault.Is(err, api.ErrSum) {
		t.Errorf("%d faults, back to %d: a number", n, back)
	}
}

// All calls end, also for faults that wrap each other in a circle: each of them
// is wrapped in the outermost one, and nothing else is.
func TestCircles(t *testing.T) {
	for n := 1; n <= 40; n++ {
		for back := range n {
			ends(t, "a call", func() { checkCircle(t, n, back) })
		}
	}
}

// Two faults that are equal are still two.
func TestEqualFaults(t *testing.T) {
	inner := &fault.Fault{Op: "a", At: 1}
	inner.Err = inner
	ends(t, "a call", func() {
		checkOps(t, fault.Again("a", 1, inner), "a", "a")
		checkText(t, fault.Again("a", 1, inner), "a 1: a 1: ")
	})
	same := fault.Wrap("a", 1, api.ErrSum)
	for range 20 {
		same = fault.Again("a", 1, same)
	}
	if n := len(fault.Ops(same)); n != 21 {
		t.Errorf("%d operations of 21 faults", n)
	}
	checkText(t, same, strings.Repeat("a 1: ", 21)+"engrosser: error 23")
}

// A result that is changed changes neither an argument nor a later result.
func TestResultsAreNew(t *testing.T) {
	err := chain(5, api.ErrSum)
	ops := fault.Ops(err)
	for i := range ops[:cap(ops)] {
		ops[:cap(ops)][i] = "changed"
	}
	checkOps(t, err, "1", "2", "3", "4", "5")
	checkText(t, err, "1 10: 2 20: 3 30: 4 40: 5 50: engrosser: error 23")

	a, b := one(t, fault.Wrap("a", 1, api.ErrSum)), one(t, fault.Wrap("a", 1, api.ErrSum))
	a.Op, a.At, a.Err = "b", 2, nil
	checkText(t, b, "a 1: engrosser: error 23")
	checkText(t, fault.Wrap("a", 1, api.ErrSum), "a 1: engrosser: error 23")

	inner := one(t, fault.Wrap("in", 5, api.ErrSum))
	first, second := one(t, fault.Again("a", 1, inner)), one(t, fault.Again("a", 1, inner))
	first.Op, first.At, first.Err = "b", 2, nil
	checkText(t, second, "a 1: in 5: engrosser: error 23")
	checkText(t, inner, "in 5: engrosser: error 23")
}

// Arguments stay as they were, and a second call returns the same.
func TestArgumentsStay(t *testing.T) {
	none := &fault.Fault{Op: "c", At: 3}
	inner := &fault.Fault{Op: "b", At: 2, Err: none}
	err := &fault.Fault{Op: "a", At: 1, Err: inner}
	for range 3 {
		checkText(t, err, "a 1: b 2: c 3: ")
		checkOps(t, err, "a", "b", "c")
		checkPlace(t, err, "c", 3)
		checkNoNumber(t, err)
		if err.Unwrap() != error(inner) || fault.Again("x", 9, err) == error(err) {
			t.Error("another fault")
		}
		if *err != (fault.Fault{Op: "a", At: 1, Err: inner}) || *inner != (fault.Fault{Op: "b", At: 2, Err: none}) || *none != (fault.Fault{Op: "c", At: 3}) {
			t.Errorf("changed: %#v, %#v, %#v", err, inner, none)
		}
	}
	none.Err = api.ErrKey // a fault is used as it is when a call is made
	checkNumber(t, err, api.ErrKey)
	checkText(t, err, "a 1: b 2: c 3: engrosser: error 30")
}
