package fault_test

import (
	"errors"
	"fmt"
	"math"
	"slices"
	"strings"
	"testing"

	"sash/api"
	"sash/fault"
)

// What the document tells in numbers is written out here, not taken from api.
const (
	ok       = api.Errno(0)
	errArg   = api.Errno(1)
	errForm  = api.Errno(2)
	errLong  = api.Errno(3)
	errSpace = api.Errno(7)
	errCap   = api.Errno(8)
	errState = api.Errno(10)
)

var (
	numbers = []api.Errno{1, 2, 3, 4, 5, 6, 7, 8, 9, 10, 11, 255, -1, -10, math.MaxInt32 + 1, math.MaxInt, math.MinInt}
	places  = []int{0, 1, 7, -1, -7, 65535, math.MaxInt32, math.MaxInt32 + 1, math.MaxInt, math.MinInt}
	plain   = errors.New("plain")
)

// around is an error of another maker, in which one is.
type around struct{ err error }

func (a around) Error() string { return "around" }
func (a around) Unwrap() error { return a.err }

// beside is an error of another maker, in which several are; it can't be compared.
type beside []error

func (b beside) Error() string   { return "beside" }
func (b beside) Unwrap() []error { return b }

// brittle panics at whatever it is asked, if it is nil.
type brittle struct{ err error }

func (b *brittle) Error() string { return b.err.Error() }
func (b *brittle) Unwrap() error { return b.err }

// brittles does so, too, and would answer several.
type brittles struct{ all []error }

func (b *brittles) Error() string   { return b.all[0].Error() }
func (b *brittles) Unwrap() []error { return b.all }

// wants tells what is said of an error: its number, its first fault's place, its words.
type wants struct {
	err   error
	e     api.Errno
	at    int
	some  bool
	words []string
}

func (w wants) check(t *testing.T, promise string) {
	t.Helper()
	if e := fault.Code(w.err); e != w.e {
		t.Errorf("%s: Code(%.80v) = %d, want %d", promise, w.err, e, w.e)
	}
	if at, ok := fault.At(w.err); at != w.at || ok != w.some {
		t.Errorf("%s: At(%.80v) = %d, %t, want %d, %t", promise, w.err, at, ok, w.at, w.some)
	}
	if l := fault.Words(w.err); !slices.Equal(l, w.words) {
		t.Errorf("%s: Words(%.80v) = %.40q, want %.40q", promise, w.err, l, w.words)
	}
}

func TestNew(t *testing.T) {
	for _, e := range numbers {
		for _, at := range places {
			err := fault.New(e, at)
			f, is := err.(*api.Fault)
			if !is || *f != (api.Fault{Err: e, At: at}) {
				t.Fatalf("P3.1: New(%d, %d) is %#v", e, at, err)
			}
			wants{err, e, at, true, nil}.check(t, "P3.1")
			if !errors.Is(err, e) || errors.Is(err, e+1) || !fault.Is(err, e) || fault.Is(err, e+1, e-1) {
				t.Errorf("P3.1: New(%d, %d) is of another number", e, at)
			}
		}
	}
}

func TestNewOfNoError(t *testing.T) {
	for _, at := range places {
		if err := fault.New(ok, at); err != nil {
			t.Errorf("P3.1: New(0, %d) is %#v, not nil", at, err)
		}
	}
}

func TestNewIsNew(t *testing.T) {
	a, b := fault.New(errForm, 7), fault.New(errForm, 7)
	a.(*api.Fault).At = 9
	wants{b, errForm, 7, true, nil}.check(t, "P0.4")
	wants{fault.New(errForm, 7), errForm, 7, true, nil}.check(t, "P0.4")
}

func TestIn(t *testing.T) {
	f := fault.New(errForm, 7)
	for _, words := range [][]string{
		{""}, {"", ""}, {"split"}, {"pane", "4"}, {"4", "pane"}, {"a b"}, {"\x00\xff", "\u00e9"}, {": ", "; "},
		{strings.Repeat("x", 100000)}, slices.Repeat([]string{"x", ""}, 10000),
	} {
		wants{fault.In(f, words...), errForm, 7, true, words}.check(t, "P3.1")
		wants{fault.In(errCap, words...), errCap, 0, false, words}.check(t, "P3.1")
		wants{fault.In(plain, words...), errState, 0, false, words}.check(t, "P3.1")
		if fault.In(nil, words...) != nil {
			t.Errorf("P3.1: In(nil, %.40q) isn't nil", words)
		}
	}
}

func TestInWithoutWords(t *testing.T) {
	for _, err := range []error{fault.New(errForm, 7), errCap, plain, fault.In(errCap, "x"), fault.Join(errCap, plain), around{plain}} {
		if fault.In(err) != err || fault.In(err, []string{}...) != err {
			t.Errorf("P3.1: In(%.80v) isn't that error itself", err)
		}
	}
	if fault.In(nil) != nil {
		t.Error("P3.1: In(nil) isn't nil")
	}
}

func TestInOfIn(t *testing.T) {
	f := fault.New(errForm, 7)
	wants{fault.In(fault.In(f, "pane", "4"), "split"), errForm, 7, true, []string{"split", "pane", "4"}}.check(t, "P3.1")
	wants{fault.In(fault.In(f, "split"), "pane", "4"), errForm, 7, true, []string{"pane", "4", "split"}}.check(t, "P3.1")
	wants{fault.In(fault.In(fault.In(f, "a"), "b", ""), "c", "c"), errForm, 7, true, []string{"c", "c", "b", "", "a"}}.check(t, "P3.1")
	wants{fault.In(fault.In(fault.In(f, "a")), "b"), errForm, 7, true, []string{"b", "a"}}.check(t, "P3.1")
}

func TestWhatIsInIsFound(t *testing.T) {
	a, b := &brittle{plain}, &brittle{plain}
	err := fault.In(fault.Join(fault.In(a, "x"), errCap, fault.New(errForm, 7)), "y")
	var f *api.Fault
	var e api.Errno
	if !errors.Is(err, a) || !errors.Is(err, plain) || !errors.Is(err, errCap) || !errors.Is(err, errForm) {
		t.Error("P3.1: errors.Is doesn't find what is in it")
	}
	if errors.Is(err, b) || errors.Is(err, errLong) || errors.Is(err, ok) {
		t.Error("P3.1: errors.Is finds what isn't in it")
	}
	if !errors.As(err, &f) || f.At != 7 || !errors.As(err, &e) || e != errCap {
		t.Error("P3.1: errors.As finds another one")
	}
}

func TestJoin(t *testing.T) {
	f, g := fault.New(errForm, 7), fault.New(errLong, 3)
	for _, w := range []wants{
		{fault.Join(f, g), errForm, 7, true, nil},
		{fault.Join(g, f), errLong, 3, true, nil},
		{fault.Join(nil, g, nil, f, nil), errLong, 3, true, nil},
		{fault.Join(f, f), errForm, 7, true, nil},
		{fault.Join(errCap, f), errCap, 7, true, nil},
		{fault.Join(f, errCap), errForm, 7, true, nil},
		{fault.Join(errCap, errForm), errCap, 0, false, nil},
		{fault.Join(plain, errForm), errForm, 0, false, nil},
		{fault.Join(plain, around{plain}), errState, 0, false, nil},
		{fault.Join(fault.In(f, "x"), fault.In(g, "y")), errForm, 7, true, nil},
		{fault.In(fault.Join(fault.In(f, "x"), g), "z"), errForm, 7, true, []string{"z"}},
		{fault.In(fault.In(fault.Join(fault.In(f, "x"), g), "z"), "u", "v"), errForm, 7, true, []string{"u", "v", "z"}},
		{fault.Join(fault.Join(plain, errCap), f), errCap, 7, true, nil},
		{fault.Join(fault.Join(plain, errCap), fault.Join(f, g)), errCap, 7, true, nil},
		{fault.Join(fault.In(fault.Join(plain, g), "x"), f), errLong, 3, true, nil},
		{fault.Join(plain, fault.Join(plain, fault.Join(plain, f)), g), errForm, 7, true, nil},
	} {
		w.check(t, "P3.1")
	}
}

func TestJoinOfOneOrNone(t *testing.T) {
	if fault.Join() != nil || fault.Join(nil) != nil || fault.Join(nil, nil, nil) != nil || fault.Join([]error{}...) != nil {
		t.Error("P3.1: Join of none isn't nil")
	}
	for _, err := range []error{fault.New(errForm, 7), errCap, plain, fault.In(errCap, "x"), fault.Join(errCap, plain)} {
		if fault.Join(err) != err || fault.Join(nil, err) != err || fault.Join(err, nil, nil) != err {
			t.Errorf("P3.1: Join of %v alone isn't that error itself", err)
		}
	}
	wants{fault.Join(nil, fault.In(errCap, "x", "y")), errCap, 0, false, []string{"x", "y"}}.check(t, "P3.1")
}

func TestNil(t *testing.T) {
	wants{nil, ok, 0, false, nil}.check(t, "P3.1")
	if fault.Is(nil) || fault.Is(nil, ok) || fault.Is(nil, numbers...) {
		t.Error("P3.1: nil tells a number")
	}
}

// A number tells itself, OK too: it is a number as others are.
func TestNumbersTellThemselves(t *testing.T) {
	for _, e := range append([]api.Errno{ok}, numbers...) {
		wants{e, e, 0, false, nil}.check(t, "P3.1")
		wants{fault.In(e, "x"), e, 0, false, []string{"x"}}.check(t, "P3.1")
		wants{fault.Join(e, errForm), e, 0, false, nil}.check(t, "P3.1")
		wants{&api.Fault{Err: e, At: 5}, e, 5, true, nil}.check(t, "P3.1")
		if !fault.Is(e, e) || fault.Is(e, e+1) || !fault.Is(e, e+1, e) {
			t.Errorf("P3.1: Is doesn't find %d alone in itself", e)
		}
	}
}

func TestErrorsOfOtherMakers(t *testing.T) {
	f := fault.New(errForm, 7)
	for _, w := range []wants{
		{plain, errState, 0, false, nil},
		{around{}, errState, 0, false, nil},
		{around{plain}, errState, 0, false, nil},
		{beside{}, errState, 0, false, nil},
		{beside{nil, nil}, errState, 0, false, nil},
		{beside{plain, nil}, errState, 0, false, nil},
		{around{errCap}, errCap, 0, false, nil},
		{around{f}, errForm, 7, true, nil},
		{fmt.Errorf("x: %w", f), errForm, 7, true, nil},
		{fmt.Errorf("x: %v", f), errState, 0, false, nil},
		{fmt.Errorf("x: %w %w", errCap, f), errCap, 7, true, nil},
		{errors.Join(plain, errCap, f), errCap, 7, true, nil},
		{beside{nil, around{plain}, around{f}, errCap}, errForm, 7, true, nil},
		{beside{beside{plain}, beside{around{beside{errCap}}}, f}, errCap, 7, true, nil},
		{fault.In(around{f}, "x"), errForm, 7, true, []string{"x"}},
		{fault.In(around{around{fault.In(f, "x")}}, "y"), errForm, 7, true, []string{"y", "x"}},
		{around{fault.In(f, "x")}, errForm, 7, true, []string{"x"}},
		{fault.In(beside{fault.In(f, "x")}, "y"), errForm, 7, true, []string{"y"}},
		{fault.In(errors.Join(fault.In(f, "x")), "y"), errForm, 7, true, []string{"y"}},
		{struct{ *api.Fault }{&api.Fault{Err: 4, At: 3}}, 4, 0, false, nil},
		{struct{ api.Errno }{4}, errState, 0, false, nil},
	} {
		w.check(t, "P3.1")
	}
}

func TestIs(t *testing.T) {
	f := fault.New(errForm, 7)
	joined := fault.In(fault.Join(fault.In(errCap, "x"), plain, around{fault.Join(plain, f)}), "y")
	for _, c := range []struct {
		err  error
		l    []api.Errno
		want bool
	}{
		{f, nil, false},
		{f, []api.Errno{}, false},
		{f, []api.Errno{errForm}, true},
		{f, []api.Errno{ok}, false},
		{f, []api.Errno{errArg, errLong}, false},
		{f, []api.Errno{errArg, errForm}, true},
		{f, []api.Errno{errForm, errArg}, true},
		{f, []api.Errno{errForm, errForm}, true},
		{f, []api.Errno{7}, false},
		{plain, []api.Errno{ok, errState}, false},
		{around{}, []api.Errno{ok, errState}, false},
		{beside{}, []api.Errno{ok, errState}, false},
		{joined, nil, false},
		{joined, []api.Errno{errCap}, true},
		{joined, []api.Errno{errForm}, true},
		{joined, []api.Errno{errSpace, errForm}, true},
		{joined, []api.Errno{ok, errArg, errLong, errSpace, errState}, false},
	} {
		if got := fault.Is(c.err, c.l...); got != c.want {
			t.Errorf("P3.1: Is(%.80v, %v) = %t", c.err, c.l, got)
		}
	}
}

// What an error is put in, how often and by whom, plays no part.
func TestPuttingKeepsNumberAndPlace(t *testing.T) {
	puts := []func(error) error{
		func(err error) error { return fault.In(err, "x") },
		func(err error) error { return fault.In(err, "error 3 at 9", "3", "") },
		func(err error) error { return fault.In(err) },
		func(err error) error { return fault.Join(err) },
		func(err error) error { return fault.Join(nil, err, nil) },
		func(err error) error { return fault.Join(plain, err) },
		func(err error) error { return fault.Join(err, errArg, fault.New(errLong, 9)) },
		func(err error) error { return around{err} },
		func(err error) error { return fmt.Errorf("3: %w", err) },
		func(err error) error { return errors.Join(err, fault.New(errLong, 9)) },
	}
	for _, e := range numbers {
		for _, at := range places {
			for _, one := range puts {
				for _, other := range puts {
					err := other(one(fault.New(e, at)))
					if got := fault.Code(err); got != e {
						t.Fatalf("P3.2: the number of %v is %d, want %d", err, got, e)
					}
					if got, is := fault.At(err); got != at || !is {
						t.Fatalf("P3.2: the place of %v is %d, %t, want %d", err, got, is, at)
					}
					if !fault.Is(err, e) {
						t.Fatalf("P3.2: %v doesn't tell %d", err, e)
					}
				}
			}
		}
	}
}

func TestWordsAreNewMemory(t *testing.T) {
	room := []string{"a", "b", "c", "d"}
	given := room[:2]
	err := fault.In(fault.In(errCap, "z"), given...)
	if !slices.Equal(room, []string{"a", "b", "c", "d"}) {
		t.Errorf("P0.4: the list became %q", room)
	}
	room[0], room[1] = "x", "y"
	want := []string{"a", "b", "z"}
	wants{err, errCap, 0, false, want}.check(t, "P0.4")
	l := fault.Words(err)
	l[0], l[2] = "u", "v"
	_ = append(l[:1], "w", "w", "w")
	wants{err, errCap, 0, false, want}.check(t, "P0.4")
	one := fault.In(errCap, "q")
	fault.Words(one)[0] = "w"
	wants{one, errCap, 0, false, []string{"q"}}.check(t, "P0.4")
}

func TestJoinedErrorsAreNewMemory(t *testing.T) {
	room := []error{nil, errForm, errCap, plain}
	before := slices.Clone(room)
	err := fault.Join(room[:3]...)
	if !slices.Equal(room, before) {
		t.Errorf("P0.4: the list became %v", room)
	}
	room[1], room[2], room[3] = errLong, errLong, errLong
	wants{err, errForm, 0, false, nil}.check(t, "P0.4")
	if !fault.Is(err, errCap) || fault.Is(err, errLong) {
		t.Error("P0.4: what was handed in was kept")
	}
	if j, is := err.(interface{ Unwrap() []error }); is {
		j.Unwrap()[0] = errLong
	}
	wants{err, errForm, 0, false, nil}.check(t, "P0.4")
	others := beside{errForm, errCap}
	fault.Code(others)
	fault.Is(others, errLong)
	if !slices.Equal(others, beside{errForm, errCap}) {
		t.Error("P0.4: an error of another maker was changed")
	}
}

// Pointers that are nil are errors, but have nothing that they could tell.
func TestNilPointers(t *testing.T) {
	f := fault.New(errForm, 7)
	for _, none := range []error{(*api.Fault)(nil), (*brittle)(nil), (*brittles)(nil), struct{ *api.Fault }{}} {
		for _, w := range []wants{
			{none, errState, 0, false, nil},
			{fault.In(none), errState, 0, false, nil},
			{fault.In(none, "x"), errState, 0, false, []string{"x"}},
			{fault.In(fault.In(none, "x"), "y"), errState, 0, false, []string{"y", "x"}},
			{fault.Join(none), errState, 0, false, nil},
			{fault.Join(none, f), errForm, 7, true, nil},
			{fault.Join(fault.In(none, "x"), f, none), errForm, 7, true, nil},
			{fault.In(fault.Join(fault.Join(none, errCap), none, f), "x"), errCap, 7, true, []string{"x"}},
			{around{around{none}}, errState, 0, false, nil},
		} {
			w.check(t, "P0.1")
			want := w.e != errState
			if got := fault.Is(w.err, numbers...); got != want {
				t.Errorf("P0.1: Is is %t with a nil pointer, want %t", got, want)
			}
		}
		_ = fault.In(none, "x").Error() + fault.Join(none, f).Error()
	}
}

// The document's bound of what is nested.
const deep = 1 << 16

func TestDeepNests(t *testing.T) {
	f := fault.New(errForm, 7)
	in, joined, last, mixed := f, f, f, f
	for range deep {
		in = fault.In(in, "x")
		joined = fault.Join(joined, errCap)
		last = fault.Join(plain, last)
		mixed = fault.In(fault.Join(nil, around{mixed}), "y")
	}
	wants{in, errForm, 7, true, slices.Repeat([]string{"x"}, deep)}.check(t, "P0.1")
	wants{joined, errForm, 7, true, nil}.check(t, "P0.1")
	wants{last, errForm, 7, true, nil}.check(t, "P0.1")
	wants{mixed, errForm, 7, true, slices.Repeat([]string{"y"}, deep)}.check(t, "P0.1")
	for _, err := range []error{in, joined, last, mixed} {
		if !fault.Is(err, errLong, errForm) || fault.Is(err, errLong) {
			t.Error("P0.1: Is finds another number in a deep nest")
		}
	}
}

// The first number will do: what stands behind it, as often as one likes, is not gone through.
func TestOneErrorManyTimes(t *testing.T) {
	err := fault.New(errForm, 7)
	for range 200 {
		err = fault.Join(err, err)
	}
	if at, is := fault.At(err); fault.Code(err) != errForm || at != 7 || !is || !fault.Is(err, errForm) {
		t.Error("P3.1: another number or place")
	}
}

func TestManyJoined(t *testing.T) {
	l := slices.Repeat([]error{nil, plain}, 100000)
	wants{fault.Join(append(l, fault.New(errCap, 4), errForm)...), errCap, 4, true, nil}.check(t, "P3.1")
	wants{fault.Join(l...), errState, 0, false, nil}.check(t, "P3.1")
}

func TestTheSameAgain(t *testing.T) {
	err := fault.In(fault.Join(fault.New(errForm, 7), errCap), "x")
	for range 3 {
		wants{err, errForm, 7, true, []string{"x"}}.check(t, "P0.6")
		if !fault.Is(err, errCap) || fault.Is(err, errArg) {
			t.Error("P0.6: Is answers otherwise")
		}
	}
}

// model is what is said of an error that is built, kept beside it: the numbers that are told in it
// in order, the faults' places in order, and its words.
type model struct {
	err   error
	told  []api.Errno
	at    []int
	words []string
}

// step puts one more error on the stack, made of those that are on it.
func step(stack []model, op, n byte) []model {
	e, at := api.Errno(int8(n)%12), int(int8(n))
	top := model{}
	if len(stack) > 0 {
		top = stack[len(stack)-1]
	}
	switch op % 9 {
	case 0:
		return append(stack, model{err: e, told: []api.Errno{e}})
	case 1:
		if e == 0 {
			return append(stack, model{err: fault.New(e, at)})
		}
		return append(stack, model{err: fault.New(e, at), told: []api.Errno{e}, at: []int{at}})
	case 2:
		return append(stack, model{err: plain})
	case 3:
		return append(stack, model{})
	case 4, 5:
		words := strings.Split(strings.Repeat("w,", int(op/9)%3)+string(rune(n)), ",")
		put := model{err: fault.In(top.err, words...), told: top.told, at: top.at}
		if top.err != nil {
			put.words = append(words, top.words...)
		}
		return append(stack, put)
	case 6:
		if top.err == nil {
			return stack
		}
		top.err = around{top.err}
		return append(stack, top)
	}
	return join(stack, int(n)%4, op%9 == 8)
}

// join takes the last ones from the stack.
func join(stack []model, n int, elsewhere bool) []model {
	n = min(n, len(stack))
	parts := stack[len(stack)-n:]
	whole := model{}
	var l, kept []error
	for _, p := range parts {
		l = append(l, p.err)
		whole.told = append(whole.told, p.told...)
		whole.at = append(whole.at, p.at...)
		if p.err != nil {
			kept = append(kept, p.err)
			whole.words = p.words
		}
	}
	if elsewhere || len(kept) != 1 {
		whole.words = nil
	}
	whole.err = fault.Join(l...)
	if elsewhere {
		whole.err = errors.Join(l...)
	}
	return append(stack[:len(stack)-n:len(stack)-n], whole)
}

func (m model) check(t *testing.T) {
	t.Helper()
	w := wants{err: m.err, e: errState, words: m.words}
	if m.err == nil {
		w.e = ok
	}
	if len(m.told) > 0 {
		w.e = m.told[0]
	}
	if len(m.at) > 0 {
		w.at, w.some = m.at[0], true
	}
	w.check(t, "P3.1")
	for e := api.Errno(-12); e <= 12; e++ {
		want := slices.Contains(m.told, e)
		if fault.Is(m.err, e) != want || fault.Is(m.err, 100, e) != want {
			t.Errorf("P3.1: Is(%.80v, %d) isn't %t", m.err, e, want)
		}
	}
}

func checkSteps(t *testing.T, b []byte) {
	t.Helper()
	var stack []model
	for i := 0; i+1 < len(b); i += 2 {
		stack = step(stack, b[i], b[i+1])
		if len(stack) > 0 {
			stack[len(stack)-1].check(t)
		}
	}
	for _, m := range stack {
		m.check(t)
	}
}

func TestErrorsAgainstPlain(t *testing.T) {
	n := uint32(1)
	for range 3000 {
		b := make([]byte, 40)
		for i := range b {
			n = n*1664525 + 1013904223
			b[i] = byte(n >> 24)
		}
		checkSteps(t, b)
	}
}

func FuzzSteps(f *testing.F) {
	f.Add([]byte("\x01\x07\x04a\x0dbc\x00\x08\x07\x02\x04d"))
	f.Add([]byte("\x02\x00\x03\x00\x01\x05\x08\x03\x06\x00"))
	f.Fuzz(func(t *testing.T, b []byte) {
		checkSteps(t, b[:min(len(b), 80)])
	})
}
