package fault

import (
	"errors"
	"fmt"
	"math"
	"math/rand"
	"slices"
	"strings"
	"testing"

	"ferryman/api"
)

// note wraps another error as a value, list several; a list can't be compared.
type note struct{ err error }

func (n note) Error() string { return "note" }
func (n note) Unwrap() error { return n.err }

type list []error

func (l list) Error() string   { return "list" }
func (l list) Unwrap() []error { return l }

// link wraps another error as a pointer, whose methods panic where it is nil.
type link struct{ err error }

func (l *link) Error() string { return "link: " + l.err.Error() }
func (l *link) Unwrap() error { return l.err }

// coded gives itself out as a number, and wraps an error.
type coded struct {
	code api.Errno
	err  error
}

func (c coded) Error() string        { return "coded" }
func (c coded) Unwrap() error        { return c.err }
func (c coded) Is(target error) bool { return target == error(c.code) }
func (c coded) As(target any) bool {
	p, ok := target.(*api.Errno)
	if ok {
		*p = c.code
	}
	return ok
}

// wild has methods that panic.
type wild struct{}

func (wild) Error() string { panic("Error") }
func (wild) Unwrap() error { panic("Unwrap") }
func (wild) Is(error) bool { panic("Is") }
func (wild) As(any) bool   { panic("As") }

// wildMany, wildEnd: the same where several are wrapped, and where none is.
type wildMany struct{}

func (wildMany) Error() string   { panic("Error") }
func (wildMany) Unwrap() []error { panic("Unwrap") }

type wildEnd struct{}

func (wildEnd) Error() string { panic("Error") }
func (wildEnd) Is(error) bool { panic("Is") }
func (wildEnd) As(target any) bool {
	if p, ok := target.(*api.Errno); ok {
		*p = api.ErrNone
	}
	panic("As")
}

// endless makes anew what it wraps, each time.
type endless int

func (e endless) Error() string { return "endless" }
func (e endless) Unwrap() error { return e + 1 }

var other = errors.New("other")

func want(t *testing.T, name string, err error, code api.Errno, where ...string) {
	t.Helper()
	if got := Code(err); got != code {
		t.Errorf("P3.2: %s: Code is %d, not %d", name, got, code)
	}
	if got := Where(err); !slices.Equal(got, where) {
		t.Errorf("P3.2: %s: Where is %q, not %q", name, got, where)
	}
}

func TestExample(t *testing.T) {
	err := At("a", 1, At("b", 2, api.ErrFunds))
	want(t, "the example", err, 40, "a", "b")
	if !Is(err, api.ErrFunds) || Is(err, api.ErrOver) || Is(err, api.OK) || Is(err, api.ErrOther) {
		t.Error("P3.2: Is of the example")
	}
}

func TestNone(t *testing.T) {
	if err := At("a", 1, nil); err != nil {
		t.Errorf("P3.1: At of none is %v", err)
	}
	if err := At("a", 1, At("b", 2, Of(api.OK))); err != nil {
		t.Errorf("P3.1: At of none, twice, is %v", err)
	}
	if err := Of(api.OK); err != nil {
		t.Errorf("P3.1: Of OK is %v", err)
	}
	want(t, "none", nil, api.OK)
	for code := api.Errno(-2); code < 65; code++ {
		if Is(nil, code) {
			t.Errorf("P3.2: none is %d", code)
		}
	}
}

func TestAt(t *testing.T) {
	for _, inside := range []error{api.ErrFunds, api.OK, api.Errno(-1), other, note{api.ErrKey}, list{other}, At("b", 2, other), (*Step)(nil), (*link)(nil)} {
		for _, n := range []int{0, 1, -1, math.MaxInt, math.MinInt} {
			for _, where := range []string{"", "a", "a\xff\x00/: "} {
				err := At(where, n, inside)
				s, ok := err.(*Step)
				if !ok || s == nil || s.Where != where || s.N != n {
					t.Fatalf("P3.1: At(%q, %d) of a %T is a %T", where, n, inside, err)
				}
				if _, unlike := inside.(list); !unlike && (s.Err != inside || s.Unwrap() != inside || errors.Unwrap(err) != inside) {
					t.Errorf("P3.1: At(%q, %d) doesn't wrap the %T it was given", where, n, inside)
				}
			}
		}
	}
}

func TestAtMakesANewStep(t *testing.T) {
	x, y := At("a", 1, api.ErrKey), At("a", 1, api.ErrKey)
	if x.(*Step) == y.(*Step) {
		t.Error("R6: two calls of At answer one Step")
	}
	outer := At("b", 2, x)
	if s := x.(*Step); *s != (Step{"a", 1, api.ErrKey}) || errors.Unwrap(outer).(*Step) != s {
		t.Error("R6: At changed the Step that it was given, or took another")
	}
}

func TestOf(t *testing.T) {
	for _, code := range []api.Errno{1, 9, 12, 20, 21, 35, 40, 44, 57, 62, 63, -1, math.MaxInt, math.MinInt} {
		err := Of(code)
		if got, ok := err.(api.Errno); !ok || got != code {
			t.Errorf("P3.1: Of %d is a %T", code, err)
		}
		want(t, "Of", err, code)
		if !Is(err, code) || Is(err, code+1) || Is(err, ^code) || Is(err, api.OK) {
			t.Errorf("P3.2: Is of %d", code)
		}
	}
}

func TestUnwrap(t *testing.T) {
	for _, inside := range []error{nil, api.OK, api.ErrKey, other, note{other}, &Step{Where: "b"}} {
		if got := (&Step{"a", 1, inside}).Unwrap(); got != inside {
			t.Errorf("P3.1: Unwrap of a Step with a %T is a %T", inside, got)
		}
	}
}

func TestNumberNought(t *testing.T) {
	err := At("a", 1, api.OK)
	if err == nil {
		t.Fatal("P3.1: At of the number 0 is no error")
	}
	for _, err := range []error{api.OK, note{api.OK}, err, list{api.OK, api.ErrKey}, At("b", 2, note{err})} {
		if Code(err) != api.OK || !Is(err, api.OK) || Is(err, api.ErrOther) || Is(err, api.ErrFunds) {
			t.Errorf("P3.2: the number 0 in a %T", err)
		}
	}
	want(t, "the number 0 under two Steps", At("b", 2, err), api.OK, "b", "a")
}

func TestNoNumber(t *testing.T) {
	n := api.ErrFunds
	for _, err := range []error{other, note{other}, note{}, list{}, list(nil), list{nil, other}, &n, &link{}, errors.Join(other, other), fmt.Errorf("x: %w", other)} {
		if Code(err) != api.ErrOther || len(Where(err)) != 0 {
			t.Errorf("P3.2: a %T has no number and no Step, but Code %d, Where %q", err, Code(err), Where(err))
		}
		want(t, "no number in a Step", At("a", 1, err), api.ErrOther, "a")
		for _, code := range []api.Errno{api.OK, api.ErrOther, api.ErrFunds, -1} {
			if Is(err, code) || Is(At("a", 1, err), code) {
				t.Errorf("P3.2: a %T is %d", err, code)
			}
		}
	}
	want(t, "the number of others, as a number", At("a", 1, api.ErrOther), api.ErrOther, "a")
	if !Is(At("a", 1, api.ErrOther), api.ErrOther) {
		t.Error("P3.2: Is of ErrOther that is there")
	}
}

func TestUnderWrapping(t *testing.T) {
	f := api.ErrFunds
	for _, c := range []struct {
		name  string
		err   error
		where string
	}{
		{"a number", f, ""},
		{"a Step", At("a", 1, f), "a"},
		{"many Steps", At("a", 1, At("b", 2, At("c", 3, At("", 4, f)))), "a b c "},
		{"a place twice", At("a", 1, At("a", 1, At("a", 1, f))), "a a a"},
		{"a note", note{f}, ""},
		{"notes", note{note{note{f}}}, ""},
		{"a link", &link{&link{f}}, ""},
		{"a list", list{f}, ""},
		{"lists", list{list{nil, f}}, ""},
		{"the library's", fmt.Errorf("x: %w", errors.Join(fmt.Errorf("y: %w", f))), ""},
		{"a note in a Step", At("a", 1, note{f}), "a"},
		{"a Step in a note", note{At("a", 1, f)}, "a"},
		{"Steps with notes between", At("a", 1, note{note{At("b", 2, &link{At("c", 3, note{f})})}}), "a b c"},
		{"Steps with lists between", list{nil, At("a", 1, list{At("b", 2, errors.Join(At("c", 3, f)))})}, "a b c"},
		{"Steps with the library's between", At("a", 1, fmt.Errorf("x: %w", At("b", 2, fmt.Errorf("y: %w", f)))), "a b"},
	} {
		if Code(c.err) != f || !Is(c.err, f) || Is(c.err, api.ErrOver) || Is(c.err, api.ErrOther) || Is(c.err, api.OK) {
			t.Errorf("P3.2: %s: the number, Code %d", c.name, Code(c.err))
		}
		if got := strings.Join(Where(c.err), " "); got != c.where {
			t.Errorf("P3.2: %s: Where is %q", c.name, got)
		}
	}
}

func TestOutermostNumber(t *testing.T) {
	inside := At("b", 2, api.ErrFunds)
	for name, err := range map[string]error{
		"coded":           coded{api.ErrOver, inside},
		"coded in a Step": At("a", 1, coded{api.ErrOver, inside}),
		"coded twice":     At("a", 1, note{coded{api.ErrOver, coded{api.ErrFunds, inside}}}),
		"in a list":       At("a", 1, list{api.ErrOver, inside}),
		"the library's":   At("a", 1, fmt.Errorf("%w: %w", api.ErrOver, inside)),
		"joined":          errors.Join(api.ErrOver, At("a", 1, inside)),
	} {
		if Code(err) != api.ErrOver || !Is(err, api.ErrOver) || !Is(err, api.ErrFunds) || Is(err, api.ErrKey) {
			t.Errorf("P3.2: %s: Code is %d", name, Code(err))
		}
	}
	err := At("a", 1, coded{api.ErrOver, inside})
	want(t, "Steps around a number that wraps", err, api.ErrOver, "a", "b")
	want(t, "the number 0 outermost", coded{api.OK, inside}, api.OK, "b")
}

// Of several that are wrapped side by side the order is that of errors.As.
func TestSideBySide(t *testing.T) {
	err := At("a", 1, list{other, At("b", 2, At("c", 3, api.ErrFunds)), note{At("d", 4, api.ErrOver)}, nil, At("e", 5, api.ErrKey)})
	want(t, "side by side", err, api.ErrFunds, "a", "b", "c", "d", "e")
	var code api.Errno
	if !errors.As(err, &code) || code != Code(err) {
		t.Errorf("P3.2: errors.As says %d", code)
	}
	for _, code := range []api.Errno{api.ErrFunds, api.ErrOver, api.ErrKey} {
		if !Is(err, code) || !errors.Is(err, code) {
			t.Errorf("P3.2: %d isn't there", code)
		}
	}
	if Is(err, api.ErrNone) || Is(err, api.OK) {
		t.Error("P3.2: a number that isn't there")
	}
}

func TestStepWithoutErr(t *testing.T) {
	for _, c := range []struct {
		err   error
		where []string
	}{
		{&Step{Where: "a"}, []string{"a"}},
		{&Step{}, []string{""}},
		{At("a", 1, &Step{Where: "b"}), []string{"a", "b"}},
		{note{&Step{Where: "b", N: 3}}, []string{"b"}},
		{list{&Step{Where: "b"}, At("c", 1, other)}, []string{"b", "c"}},
	} {
		if got := Where(c.err); !slices.Equal(got, c.where) {
			t.Errorf("P3.2: Where is %q, not %q", got, c.where)
		}
	}
}

func TestWhereOfNone(t *testing.T) {
	for _, err := range []error{nil, api.ErrKey, api.OK, other, note{note{other}}, coded{api.ErrKey, nil}, list{}} {
		if got := Where(err); len(got) != 0 {
			t.Errorf("P3.2: Where of a %T is %q", err, got)
		}
	}
}

func TestWhereIsNewMemory(t *testing.T) {
	err := At("a", 1, At("b", 2, api.ErrKey))
	Where(err)[0] = "x"
	if got := Where(err); !slices.Equal(got, []string{"a", "b"}) {
		t.Errorf("R6: Where is %q", got)
	}
}

func TestNilStep(t *testing.T) {
	var s *Step
	if s.Error() != "" || s.Unwrap() != error(api.ErrNil) {
		t.Errorf("R7: of a nil Step Error is %q, Unwrap %v", s.Error(), s.Unwrap())
	}
	want(t, "a nil Step", s, api.ErrNil)
	want(t, "a nil Step in a Step", At("a", 1, s), api.ErrNil, "a")
	if !Is(s, api.ErrNil) || Is(s, api.ErrKey) || Is(s, api.OK) {
		t.Error("R7: Is of a nil Step")
	}
	if text := At("a", 1, note{s}).Error(); text == "" {
		t.Error("P3.1: Error around a nil Step")
	}
}

// Where errors wrap one another in a circle, each Step is told once, and numbers beside it are found.
func TestCircles(t *testing.T) {
	self := &Step{Where: "a", N: 1}
	self.Err = self
	want(t, "a Step in itself", self, api.ErrOther, "a")

	first := &Step{Where: "a"}
	second := &Step{Where: "b", Err: note{&link{first}}}
	first.Err = note{At("m", 1, second)}
	want(t, "two Steps in one another", first, api.ErrOther, "a", "m", "b")
	want(t, "two Steps in one another, from outside", At("o", 1, second), api.ErrOther, "o", "b", "a", "m")

	wide := &Step{Where: "w"}
	wide.Err = list{wide, self, At("x", 1, list{wide, api.ErrKey}), wide}
	want(t, "a number in a circle", wide, api.ErrKey, "w", "a", "x")
	for _, s := range []*Step{self, first, second, wide} {
		if Is(s, api.OK) || Is(s, api.ErrFunds) || s.Error() == "" {
			t.Errorf("P1, P3.2: the circle at %q", s.Where)
		}
	}
	if !Is(wide, api.ErrKey) {
		t.Error("P3.2: Is of a number in a circle")
	}
}

// The same of other errors' circles, of which Steps know nothing.
func TestForeignCircles(t *testing.T) {
	self := &link{}
	self.err = self
	many := make(list, 1)
	many[0] = many
	for name, err := range map[string]error{"link": self, "list": many, "endless": endless(0)} {
		want(t, name, err, api.ErrOther)
		both := At("a", 1, list{At("b", 2, err), At("c", 3, note{api.ErrKey})})
		if got := Where(both); len(got) != 3 || got[0] != "a" || got[1] != "b" || got[2] != "c" {
			t.Errorf("P1, P3.2: %s in a list: Where is %q", name, got)
		}
		if Is(err, api.ErrKey) {
			t.Errorf("P1, P3.2: %s: Is", name)
		}
	}
	if text := At("a", 1, self).Error(); text == "" {
		t.Error("P1: Error around a circle")
	}
}

func TestPanicsAreCaught(t *testing.T) {
	for _, err := range []error{wild{}, wildMany{}, wildEnd{}, (*link)(nil), &link{wild{}}, note{wildMany{}}} {
		want(t, "panics alone", err, api.ErrOther)
		want(t, "panics in a Step", At("a", 1, err), api.ErrOther, "a")
		want(t, "a number behind panics", At("a", 1, list{err, At("b", 2, api.ErrKey)}), api.ErrKey, "a", "b")
		if Is(err, api.ErrKey) || Is(err, api.OK) || Is(At("a", 1, err), api.ErrNone) || !Is(list{err, api.ErrKey}, api.ErrKey) {
			t.Errorf("P1, P3.2: Is of a %T", err)
		}
		if text := At("a", 1, err).Error(); text == "" {
			t.Errorf("P1: Error of a Step with a %T", err)
		}
	}
}

func TestErrorSaysWhere(t *testing.T) {
	text := At("ahead", 17, note{At("behind", -5, api.ErrFunds)}).Error()
	for _, part := range []string{"ahead", "17", "behind", "-5", "40"} {
		if !strings.Contains(text, part) {
			t.Errorf("P3.1: Error is %q, without %s", text, part)
		}
	}
}

func TestManySteps(t *testing.T) {
	const n = 200000
	places := make([]string, n)
	var err error = api.ErrSeal
	for i := range n {
		places[n-1-i] = fmt.Sprint(i)
		if i%3 == 1 {
			err = &link{err}
		}
		err = At(fmt.Sprint(i), i, err)
	}
	want(t, "many Steps", err, api.ErrSeal, places...)
	if !Is(err, api.ErrSeal) || Is(err, api.ErrVals) {
		t.Error("P3.2: Is of many Steps")
	}
	var deep error = api.ErrSeal
	for range n {
		deep = list{nil, note{deep}}
	}
	want(t, "many notes and lists", deep, api.ErrSeal)
}

// made: an error at random, its numbers in the order in which errors.As meets them, and its places.
func made(r *rand.Rand, depth int) (err error, codes []api.Errno, places []string) {
	kind := r.Intn(9)
	if depth == 0 {
		kind = r.Intn(2)
	}
	switch kind {
	case 0:
		return other, nil, nil
	case 1:
		code := api.Errno(r.Intn(4))
		return code, []api.Errno{code}, nil
	case 2:
		var l list
		for range r.Intn(4) {
			e, c, p := made(r, depth-1)
			l, codes, places = append(l, e), append(codes, c...), append(places, p...)
		}
		return l, codes, places
	}
	inside, codes, places := made(r, depth-1)
	switch kind {
	case 3:
		return note{inside}, codes, places
	case 4:
		return fmt.Errorf("x: %w", inside), codes, places
	case 5:
		code := api.Errno(r.Intn(4))
		return coded{code, inside}, append([]api.Errno{code}, codes...), places
	}
	where := string(rune('a' + r.Intn(5)))
	return At(where, depth, inside), codes, append([]string{where}, places...)
}

func TestAtRandom(t *testing.T) {
	r := rand.New(rand.NewSource(3))
	for range 20000 {
		err, codes, places := made(r, 8)
		code := api.ErrOther
		if len(codes) > 0 {
			code = codes[0]
		}
		want(t, "at random", err, code, places...)
		for code := api.Errno(-1); code < 12; code++ {
			if got := Is(err, code); got != slices.Contains(codes, code) || got != errors.Is(err, code) {
				t.Fatalf("P3.2: Is of %d is %t, of the numbers %v", code, got, codes)
			}
		}
		if Code(err) != Code(err) || !slices.Equal(Where(err), Where(err)) {
			t.Fatal("R8: asked twice, the answer is another")
		}
	}
}
