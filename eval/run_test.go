package eval

import (
	"reflect"
	"slices"
	"strings"
	"testing"

	"exactchange/api"
	"exactchange/scope"
	"exactchange/text"
)

// program reads s, a right program.
func program(t *testing.T, s string) []api.Fn {
	t.Helper()
	l, err := text.Parse(s)
	if err == api.OK {
		err = scope.Check(l, text.Name)
	}
	if err != api.OK {
		t.Fatalf("%q is no right program: %d", s, err)
	}
	return l
}

// comes holds what comes of f's call against what must.
func comes(t *testing.T, s string, args []int, fuel int, want api.Value, wrong api.Errno) {
	t.Helper()
	got, err := Run(program(t, s), "f", args, fuel)
	if err != wrong || !Same(got, want) {
		t.Errorf("%s of %v, fuel %d: %v, %d; not %v, %d", s, args, fuel, got, err, want, wrong)
	}
}

func answers(t *testing.T, s string, want api.Value, args ...int) {
	t.Helper()
	comes(t, s, args, api.MaxFuel, want, api.OK)
}

func fails(t *testing.T, s string, wrong api.Errno, args ...int) {
	t.Helper()
	comes(t, s, args, api.MaxFuel, api.Value{}, wrong)
}

const (
	// sums adds all numbers up to x.
	sums = "(fn f (x) (match (= x 0) (#1 () 0) (#0 () (+ x (f (- x 1))))))"
	// trees makes one of 2^(x+1)-1 values.
	trees = "(fn f (x) (match (= x 0) (#1 () (#0)) (#0 () (let l (f (- x 1)) (#1 l l)))))"
)

func TestRunOfEachKind(t *testing.T) {
	answers(t, "(fn f (x) x)", whole(4), 4)
	answers(t, "(fn f () -7)", whole(-7))
	answers(t, "(fn f (x) (+ x 2))", whole(7), 5)
	answers(t, "(fn f (x y) (- x y))", whole(3), 5, 2)
	answers(t, "(fn f (x y) (* x y))", whole(10), 5, 2)
	answers(t, "(fn f (x y) (#4 (< x y) (= x y)))", con(4, con(0), con(1)), 2, 2)
	answers(t, "(fn f (x y) (#3 y (#9) x))", con(3, whole(2), con(9), whole(1)), 1, 2)
	answers(t, "(fn f (x) (let y (+ x 1) (#1 y x)))", con(1, whole(6), whole(5)), 5)
	answers(t, "(fn f (x y) (match (#2 x y) (#1 (a b) a) (#2 (a b) (- b a)) (#0 () 0)))", whole(6), 3, 9)
	answers(t, "(fn g (a b) (#1 b a))(fn f (x y) (g x y))", con(1, whole(2), whole(1)), 1, 2)
	answers(t, sums, whole(55), 10)
}

func TestTheLastBoundCounts(t *testing.T) {
	answers(t, "(fn f (x) (let x (+ x 1) (let x (* x x) x)))", whole(36), 5)
	answers(t, "(fn f (x) (#1 (let x 7 x) x))", con(1, whole(7), whole(5)), 5)
	answers(t, "(fn f (x) (let y (let x 7 x) (#1 x y)))", con(1, whole(5), whole(7)), 5)
	answers(t, "(fn f (x y) (match (#0 3) (#0 (x) (#1 x y))))", con(1, whole(3), whole(6)), 5, 6)
	answers(t, "(fn f (x) (match (#0 1 2) (#0 (a b) (match (#0 3) (#0 (b) (#0 a b x))))))", con(0, whole(1), whole(3), whole(9)), 9)
	answers(t, "(fn f (x) (match (match (#0 3) (#0 (x) (#2 x))) (#2 (y) (#1 x y))))", con(1, whole(5), whole(3)), 5)
	answers(t, "(fn f (x) (#1 (g 7) x))(fn g (x) (let y x y))", con(1, whole(7), whole(5)), 5)
}

func TestArgumentsAreOf32Bits(t *testing.T) {
	answers(t, "(fn f (x y) (#0 x y))", con(0, whole(-1<<31), whole(5)), 1<<31, 1<<32+5)
	answers(t, "(fn f (x y) (= x y))", con(1), 1<<40-1, -1)
	answers(t, "(fn f (x) (+ x 1))", whole(-1<<31), 1<<31-1)
}

func TestFuelFrom0ToMaxFuel(t *testing.T) {
	for _, fuel := range []int{-1, api.MaxFuel + 1, -1 << 63, 1<<63 - 1} {
		comes(t, "(fn f (x) x)", []int{1}, fuel, api.Value{}, api.ErrRange)
		comes(t, "(fn f (x) x)", nil, fuel, api.Value{}, api.ErrRange)
	}
	comes(t, "(fn f (x) x)", []int{1}, 0, api.Value{}, api.ErrFuel)
	comes(t, "(fn f (x) x)", []int{1}, 1, whole(1), api.OK)
	comes(t, "(fn f (x) x)", []int{1}, api.MaxFuel, whole(1), api.OK)
}

func TestNoSuchFunction(t *testing.T) {
	l := program(t, "(fn f (x) x)(fn g (x y) x)")
	for _, c := range []struct {
		name string
		args []int
	}{{"h", []int{1}}, {"", []int{1}}, {"f", nil}, {"f", []int{1, 2}}, {"g", []int{1}}, {"f", make([]int, 1000)}} {
		for _, fuel := range []int{0, 5} {
			if got, err := Run(l, c.name, c.args, fuel); err != api.ErrNone || !Same(got, api.Value{}) {
				t.Errorf("%q of %d, fuel %d: %v, %d", c.name, len(c.args), fuel, got, err)
			}
		}
	}
	if got, err := Run(nil, "f", nil, 5); err != api.ErrNone || !Same(got, api.Value{}) {
		t.Errorf("of no functions: %v, %d", got, err)
	}
}

func TestAllCallsTakeFuel(t *testing.T) {
	comes(t, sums, []int{9}, 10, whole(45), api.OK)
	comes(t, sums, []int{9}, 9, api.Value{}, api.ErrFuel)
	row := "(fn f (x) (#0 (g x) (g x) (g x)))(fn g (x) x)"
	comes(t, row, []int{1}, 4, con(0, whole(1), whole(1), whole(1)), api.OK)
	comes(t, row, []int{1}, 3, api.Value{}, api.ErrFuel)
	// 1 + 6 + 36 + 216 + 1296 calls, never more than 5 within one another.
	six := func(name, of string) string {
		return "(fn " + name + " (x) (#0" + strings.Repeat(" ("+of+" x)", 6) + "))"
	}
	fails(t, six("f", "g")+six("g", "h")+six("h", "k")+six("k", "m")+"(fn m (x) x)", api.ErrFuel, 1)
}

func TestCallsWithinOneAnother(t *testing.T) {
	answers(t, sums, whole(39*40/2), 39)
	fails(t, sums, api.ErrDeep, 40)
	fails(t, "(fn f (x) (f x))", api.ErrDeep, 1)
	fails(t, "(fn f (x) (g x))(fn g (x) (f x))", api.ErrDeep, 1)
	comes(t, "(fn f (x) (f x))", []int{1}, api.MaxCalls+1, api.Value{}, api.ErrDeep)
	comes(t, "(fn f (x) (f x))", []int{1}, api.MaxCalls, api.Value{}, api.ErrFuel)
	// What has ended does not go on: 3 times 39 within one another are no more than 40.
	answers(t, "(fn f (x) (#0 (g x) (g x) (g x)))"+strings.ReplaceAll(sums, "f (", "g ("), con(0, whole(741), whole(741), whole(741)), 38)
}

func TestCallsOfArgumentsAreAhead(t *testing.T) {
	// Those of an argument have ended when the call begins: 39 within one another below f, and then g.
	answers(t, "(fn f (x) (g (g 38 0) x))(fn g (x y) (match (= x 0) (#1 () y) (#0 () (g (- x 1) (+ y 1)))))", whole(38), 0)
	answers(t, "(fn f (x) (g (g (g x))))(fn g (x) (+ x 1))", whole(4), 1)
	comes(t, "(fn f (x) (g (+ x (#0))))(fn g (x) x)", []int{1}, 1, api.Value{}, api.ErrType)
	comes(t, "(fn f (x) (g (g x)))(fn g (x) (match x (#0 () 1)))", []int{1}, 2, api.Value{}, api.ErrType)
}

func TestNumbersAndOthers(t *testing.T) {
	for _, p := range []string{"+", "-", "*", "<", "="} {
		fails(t, "(fn f (x) ("+p+" x (#0)))", api.ErrType, 1)
		fails(t, "(fn f (x) ("+p+" (#0) x))", api.ErrType, 1)
		fails(t, "(fn f (x) ("+p+" (#0) (#0)))", api.ErrType, 1)
	}
	fails(t, "(fn f (x) (match x (#0 () 1)))", api.ErrType, 0)
	fails(t, "(fn f (x) (match x (#5 () 1)))", api.ErrType, 0)
}

func TestCasesOfAMatch(t *testing.T) {
	fails(t, "(fn f (x) (match (#1) (#0 () 1)))", api.ErrCase, 1)
	fails(t, "(fn f (x) (match (#1 x) (#1 () 1)))", api.ErrCase, 1)
	fails(t, "(fn f (x) (match (#1) (#1 (a) 1)))", api.ErrCase, 1)
	fails(t, "(fn f (x) (match (#1 x x) (#0 (a b) a) (#1 (a) a) (#2 (a b) b)))", api.ErrCase, 1)
	answers(t, "(fn f (x) (match (#2 x) (#1 (a) (+ a (#0))) (#2 (b) b)))", whole(1), 1)
}

func TestTheFirstErrorIsTold(t *testing.T) {
	const none = "(match (#1) (#0 () 1))"
	fails(t, "(fn f (x) (#1 (+ (#0) 1) "+none+"))", api.ErrType, 1)
	fails(t, "(fn f (x) (#1 "+none+" (+ (#0) 1)))", api.ErrCase, 1)
	fails(t, "(fn f (x) (+ (#0) "+none+"))", api.ErrCase, 1)
	fails(t, "(fn f (x) (let y "+none+" (+ (#0) 1)))", api.ErrCase, 1)
	fails(t, "(fn f (x) (let y (+ (#0) 1) "+none+"))", api.ErrType, 1)
	fails(t, "(fn f (x) (let y "+none+" x))", api.ErrCase, 1)
	fails(t, "(fn f (x) (match "+none+" (#0 () (+ (#0) 1))))", api.ErrCase, 1)
	fails(t, "(fn f (x) (#1 (+ (#0) 1) (f x)))", api.ErrType, 1)
	fails(t, "(fn f (x) (#1 (f x) (+ (#0) 1)))", api.ErrDeep, 1)
	fails(t, "(fn f (x) (g x "+none+" (+ (#0) 1)))(fn g (a b c) a)", api.ErrCase, 1)
}

func TestTooMuchAtLast(t *testing.T) {
	// It makes 1 + 3 * (1 + 4 * (1 + 2 * (1 + 5 * (1 + 7)))) values: MaxNodes.
	const most = "(let a (#0 (#0 1 2 3 4 5 6)) (let b (#0 a a a a a) (let c (#0 b b) (let d (#0 c c c c) (#0 d d d)))))"
	got, err := Run(program(t, "(fn f () "+most+")"), "f", nil, 1)
	if err != api.OK || !Few(got) || Few(con(0, got)) {
		t.Errorf("%d values: %d", api.MaxNodes, err)
	}
	fails(t, "(fn f () (#0 "+most+"))", api.ErrMuch)
	fails(t, trees, api.ErrMuch, 9)
	fails(t, trees, api.ErrMuch, 39)
	// What is large on the way, and not at last, is no error.
	answers(t, "(fn f (x) (match (g x) (#1 (a b) x)))"+strings.ReplaceAll(trees, "f (", "g ("), whole(38), 38)
	// What is wrong on the way comes ahead of what is too large.
	fails(t, "(fn f (x) (#0 (g x) (+ 1 (#0))))"+strings.ReplaceAll(trees, "f (", "g ("), api.ErrType, 38)
}

func TestAnswersShareNothing(t *testing.T) {
	l := program(t, "(fn f (x) (let a (#1 x) (let b (#2 a a) (#3 b b a))))")
	got, err := Run(l, "f", []int{5}, 1)
	a := con(1, whole(5))
	want := con(3, con(2, a, a), con(2, a, a), a)
	if err != api.OK || !Same(got, want) {
		t.Fatalf("%v, %d", got, err)
	}
	got.Kids[0].Kids[0].Kids[0].N = 6
	got.Kids[2].Kids[0].N = 7
	got.Kids[1].Kids[1].Con = false
	left := con(3, con(2, con(1, whole(6)), a), con(2, a, api.Value{N: 1, Kids: a.Kids}), con(1, whole(7)))
	if !Same(got, left) {
		t.Errorf("two lists of one answer share their memory: %v", got)
	}
}

func TestRunOnlyReads(t *testing.T) {
	s := "(fn f (x y) (let z (#1 x y) (match z (#1 (a b) (g (+ a b))))))(fn g (x) (#2 x 3))"
	l := program(t, s)
	room := []int{4, 5, 6}
	got, err := Run(l[:len(l):len(l)], "f", room[:2], 9)
	if err != api.OK || !Same(got, con(2, whole(9), whole(3))) {
		t.Errorf("%v, %d", got, err)
	}
	if !reflect.DeepEqual(l, program(t, s)) || !slices.Equal(room, []int{4, 5, 6}) {
		t.Errorf("what was handed in is changed: %v, %v", l, room)
	}
	again, _ := Run(l, "f", room[:2], 9)
	if !Same(again, got) {
		t.Error("the same call answers otherwise the second time")
	}
}

func TestLongRunsEnd(t *testing.T) {
	// As many terms as may be, in as many calls as may be.
	deep := strings.Repeat("(let a (#1 a a a a a a) ", 20) + "0" + strings.Repeat(")", 20)
	s := "(fn f (a) (match (< 0 1) (#0 () 1) (#1 () (let b " + deep + " (g 38 a)))))" +
		"(fn g (n a) (match (= n 0) (#1 () (#0 a)) (#0 () (g (- n 1) (#1 a a a a)))))"
	fails(t, s, api.ErrMuch, 1)
}

// Of programs that are not right nothing is promised; still no call panics.
func TestProgramsThatAreNotRight(t *testing.T) {
	one := []api.Term{{Kind: api.TmInt, N: 1}}
	for _, body := range []api.Term{
		{}, {Kind: -1}, {Kind: api.TmDup, Name: "x", Args: one}, {Kind: api.TmFree}, {Kind: api.TmVar, Name: "y"},
		{Kind: api.TmPrim, N: 1}, {Kind: api.TmPrim, N: 1, Args: one}, {Kind: api.TmPrim, N: 9, Args: append(one, one...)},
		{Kind: api.TmLet, Name: "x"}, {Kind: api.TmLet, Name: "x", Args: one}, {Kind: api.TmMatch}, {Kind: api.TmMatch, Args: append(one, one...)},
		{Kind: api.TmCall, Name: "g"}, {Kind: api.TmCall, Name: "f", Args: append(one, one...)},
	} {
		got, err := Run([]api.Fn{{Name: "f", Params: []string{"x"}, Body: body}}, "f", []int{1}, 9)
		if err == api.OK || !Same(got, api.Value{}) {
			t.Errorf("%v: %v, %d", body, got, err)
		}
	}
}
