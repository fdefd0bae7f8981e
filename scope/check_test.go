package scope

import (
	"math"
	"reflect"
	"slices"
	"strconv"
	"strings"
	"testing"

	"exactchange/api"
	"exactchange/text"
)

// checked holds what Check says of functions against what it must say.
func checked(t *testing.T, want api.Errno, what string, l ...api.Fn) {
	t.Helper()
	if got := Check(l, text.Name); got != want {
		t.Errorf("%s: %d comes, not %d", what, got, want)
	}
}

// checkedBody is checked of one function f of x with that body.
func checkedBody(t *testing.T, want api.Errno, what string, b api.Term) {
	t.Helper()
	checked(t, want, what, api.Fn{Name: "f", Params: []string{"x"}, Body: b})
}

func TestRightPrograms(t *testing.T) {
	for _, s := range []string{
		"(fn f () 1)",
		"(fn f (x) (+ x 1))",
		"(fn f (l a) (match l (#0 () a) (#1 (x r) (f r (#1 x a)))))",
		"(fn f (x) (g x)) (fn g (x) (f x))",
		"(fn f (f) (f f))",
		"(fn f (x) (let x x (let x (#9 x x) x)))",
		"(fn f (x) (match x (#0 (x) x) (#9 (a b c d e x) (#9 a b c d e x)) (#1 () x) (#2 () x) (#3 () x)))",
		"(fn f (x y) (+ (let z x z) (let z y z)))",
		"(fn f (a b c d e g) (f a b c d e g))",
		"(fn f (x) 2147483647) (fn g (x) -2147483648)",
		"(fn f (x) (#3 (+ x x) (- x x) (* x x) (< x x) (= x x)))",
		"(fn a () 1) (fn b () 1) (fn c () 1) (fn d () 1) (fn e () 1) (fn g () (a))",
		"(fn f (let) (let match let match))",
	} {
		checked(t, api.OK, s, program(t, s)...)
	}
}

func TestWrongPrograms(t *testing.T) {
	for _, c := range []struct {
		s    string
		want api.Errno
	}{
		{"", api.ErrMany},
		{"(fn a () 1) (fn b () 1) (fn c () 1) (fn d () 1) (fn e () 1) (fn g () 1) (fn h () 1)", api.ErrMany},
		{"(fn a () 1) (fn a () 1) (fn c () 1) (fn d () 1) (fn e () 1) (fn g () 1) (fn h () 1)", api.ErrMany},
		{"(fn f (x) x) (fn g () 1) (fn f () 1)", api.ErrName},
		{"(fn f (x y x) x)", api.ErrName},
		{"(fn f (a b c d e g h) a)", api.ErrMany},
		{"(fn f (a b c d e g a) a)", api.ErrName},
		{"(fn f (x) y)", api.ErrNone},
		{"(fn f (x) f)", api.ErrNone},
		{"(fn f (x y) (f x f))", api.ErrNone},
		{"(fn f (x) x) (fn g (y) x)", api.ErrNone},
		{"(fn f (x) (g x))", api.ErrNone},
		{"(fn f (x) (x x))", api.ErrNone},
		{"(fn f (x) (f))", api.ErrMany},
		{"(fn f (x) (f x x))", api.ErrMany},
		{"(fn f (x) (g x)) (fn g () 1)", api.ErrMany},
		{"(fn f (x) (g x x x x x x x))", api.ErrMany},
		{"(fn f (x) (#1 x x x x x x x))", api.ErrMany},
		{"(fn f (x) 2147483648)", api.ErrRange},
		{"(fn f (x) -2147483649)", api.ErrRange},
		{"(fn f (x) 4294967296)", api.ErrRange},
		{"(fn f (x) (#10 x))", api.ErrRange},
		{"(fn f (x) (#-1 x))", api.ErrRange},
		{"(fn f (x) (let y y y))", api.ErrNone},
		{"(fn f (x) (+ (let y x y) y))", api.ErrNone},
		{"(fn f (x) (match x))", api.ErrMany},
		{"(fn f (x) (match y))", api.ErrNone},
		{"(fn f (x) (match x (#0 () 1) (#1 () 1) (#2 () 1) (#3 () 1) (#4 () 1) (#5 () 1)))", api.ErrMany},
		{"(fn f (x) (match x (#0 () y) (#1 () 1) (#2 () 1) (#3 () 1) (#4 () 1) (#5 () 1)))", api.ErrMany},
		{"(fn f (x) (match x (#10 () 1)))", api.ErrRange},
		{"(fn f (x) (match x (#-1 () 1)))", api.ErrRange},
		{"(fn f (x) (match x (#1 () x) (#2 () x) (#1 (a) x)))", api.ErrName},
		{"(fn f (x) (match x (#1 (a b a) x)))", api.ErrName},
		{"(fn f (x) (match x (#1 (a b c d e g h) x)))", api.ErrMany},
		{"(fn f (x) (match x (#1 (a b c d e g a) x)))", api.ErrName},
		{"(fn f (x) (match x (#1 (a) b)))", api.ErrNone},
		{"(fn f (x) (match x (#1 (a) a) (#2 () a)))", api.ErrNone},
		{"(fn f (x) (match a (#1 (a) a)))", api.ErrNone},
		{"(fn f (x) (match x (#1 (a) a) (#2 () (match x))))", api.ErrMany},
	} {
		checked(t, c.want, c.s, program(t, c.s)...)
	}
}

func TestTheFirstFaultIsTold(t *testing.T) {
	for _, c := range []struct {
		s    string
		want api.Errno
	}{
		// heads ahead of all bodies, functions and terms in their order, outer ones first
		{"(fn f (x) y) (fn f (x) x)", api.ErrName},
		{"(fn f (x) y) (fn g (a b c d e h i) 1)", api.ErrMany},
		{"(fn f (x) y) (fn g (x) (#10))", api.ErrNone},
		{"(fn f (x) (#10)) (fn g (x) y)", api.ErrRange},
		{"(fn f (x) (+ y (#10)))", api.ErrNone},
		{"(fn f (x) (+ (#10) y))", api.ErrRange},
		{"(fn f (x) (#10 y))", api.ErrRange},
		{"(fn f (x) (#10 x x x x x x x))", api.ErrMany},
		{"(fn f (x) (g y))", api.ErrNone},
		{"(fn f (x) (f (#10) y))", api.ErrMany},
		{"(fn f (x) (let y (#10) z))", api.ErrRange},
		{"(fn f (x) (match (#10)))", api.ErrRange},
		{"(fn f (x) (match x (#10 (a a) y)))", api.ErrRange},
		{"(fn f (x) (match x (#1 (a a) y)))", api.ErrName},
		{"(fn f (x) (match x (#1 () y) (#10 () 1)))", api.ErrNone},
		{"(fn f (x) (match x (#1 () 1) (#10 () y)))", api.ErrRange},
		{"(fn f (x) (match x (#1 () 1) (#1 (a b c d e g h) y)))", api.ErrName},
		{"(fn f (x) (match x (#1 (a b c d e g h) y)))", api.ErrMany},
	} {
		checked(t, c.want, c.s, program(t, c.s)...)
	}
}

func TestNamesOfFunctions(t *testing.T) {
	for _, s := range []string{"", "F", "9", "abcdefghi", "a-b", "f "} {
		checked(t, api.ErrName, "function "+s, api.Fn{Name: s, Body: whole(1)})
		checked(t, api.ErrName, "parameter "+s, api.Fn{Name: "f", Params: []string{"x", s}, Body: whole(1)})
		checkedBody(t, api.ErrName, "let "+s, let(s, variable("y"), variable("x")))
		checkedBody(t, api.ErrName, "case "+s, match(variable("x"), api.Case{Vars: []string{s}, Body: variable("y")}))
	}
	checked(t, api.ErrName, "wrong behind a right one", api.Fn{Name: "f", Body: whole(1)}, api.Fn{Name: "G", Body: whole(1)})
	seven := []string{"a", "b", "c", "d", "e", "g", "H"}
	checked(t, api.ErrName, "too many, of which one is no name", api.Fn{Name: "f", Params: seven, Body: whole(1)})
}

func TestNameIsAsked(t *testing.T) {
	odd := []api.Fn{{Name: "F", Params: []string{"X"}, Body: let("Y", variable("X"), match(variable("Y"), api.Case{Vars: []string{"Z"}, Body: variable("Z")}))}}
	if got := Check(odd, func(s string) bool { return strings.ToUpper(s) == s }); got != api.OK {
		t.Errorf("%d comes of other names", got)
	}
	if got := Check(odd, func(s string) bool { return s != "Z" }); got != api.ErrName {
		t.Errorf("%d comes of a wrong case's name", got)
	}
	right := program(t, "(fn f (x) x)")
	if got := Check(right, nil); got != api.ErrName {
		t.Errorf("%d comes where nothing tells names", got)
	}
	if got := Check(right, func(string) bool { panic("no") }); got != api.ErrName {
		t.Errorf("%d comes where asking panics", got)
	}
	if got := Check(nil, nil); got != api.ErrMany {
		t.Errorf("%d comes of nothing at all", got)
	}
}

func TestKindsAndPrimitives(t *testing.T) {
	x := variable("x")
	for _, k := range []int{math.MinInt, -1, 0, api.TmDup, api.TmDrop, api.TmTake, api.TmHold, api.TmUse, api.TmFree, 14, math.MaxInt} {
		checkedBody(t, api.ErrKind, "kind "+strconv.Itoa(k), api.Term{Kind: k, Name: "x", Args: []api.Term{x}})
		checkedBody(t, api.ErrKind, "kind within "+strconv.Itoa(k), con(1, api.Term{Kind: k}))
	}
	for _, p := range []int{math.MinInt, -1, 0, 6, math.MaxInt} {
		checkedBody(t, api.ErrKind, "primitive "+strconv.Itoa(p), api.Term{Kind: api.TmPrim, N: p, Args: []api.Term{variable("y"), x}})
	}
	checkedBody(t, api.ErrMany, "primitive of one", api.Term{Kind: api.TmPrim, N: 9, Args: []api.Term{x}})
	checkedBody(t, api.ErrKind, "no kind, with cases", api.Term{Args: make([]api.Term, 9), Cases: []api.Case{{}}})
}

func TestHowManyArguments(t *testing.T) {
	x := variable("x")
	of := func(kind, n int) api.Term {
		return api.Term{Kind: kind, N: 1, Name: "x", Args: slices.Repeat([]api.Term{x}, n)}
	}
	for kind, most := range map[int]int{api.TmVar: 0, api.TmInt: 0, api.TmPrim: 2, api.TmLet: 2, api.TmCon: api.MaxVars} {
		least := most
		if kind == api.TmCon {
			least = 0
		}
		for n := range 9 {
			want := api.OK
			if n < least || n > most {
				want = api.ErrMany
			}
			checkedBody(t, want, "kind "+strconv.Itoa(kind)+" of "+strconv.Itoa(n), of(kind, n))
		}
	}
	for _, n := range []int{0, 2, 3} {
		m := of(api.TmMatch, n)
		m.Cases = []api.Case{{Body: x}}
		checkedBody(t, api.ErrMany, "match of "+strconv.Itoa(n), m)
	}
	checkedBody(t, api.ErrMany, "a let of two without a name, of one", let("9", x))
}

func TestOnlyMatchesHaveCases(t *testing.T) {
	x := variable("x")
	for _, b := range []api.Term{x, whole(1), con(1), {Kind: api.TmPrim, N: 1, Args: []api.Term{x, x}}, let("y", x, x), {Kind: api.TmCall, Name: "f", Args: []api.Term{x}}} {
		b.Cases = []api.Case{}
		checkedBody(t, api.OK, "no cases of kind "+strconv.Itoa(b.Kind), b)
		b.Cases = []api.Case{{Body: x}}
		checkedBody(t, api.ErrMany, "cases of kind "+strconv.Itoa(b.Kind), b)
	}
}

func TestFieldsThatAKindHasNotMeanNothing(t *testing.T) {
	odd := func(b api.Term) api.Term {
		b.Token, b.Vars = "9", []string{"9", "9"}
		if b.Kind != api.TmVar && b.Kind != api.TmLet {
			b.Name = "9"
		}
		if b.Kind == api.TmVar || b.Kind == api.TmLet || b.Kind == api.TmMatch {
			b.N = math.MaxInt
		}
		return b
	}
	b := odd(let("y", odd(con(2)), odd(match(odd(variable("y")), api.Case{Body: odd(whole(7))}))))
	checkedBody(t, api.OK, "odd fields", b)
}

// inside is x within n others, by way of what a step makes of it.
func inside(n int, step func(api.Term) api.Term) api.Term {
	b := variable("x")
	for range n {
		b = step(b)
	}
	return b
}

func TestHowDeep(t *testing.T) {
	for what, step := range map[string]func(api.Term) api.Term{
		"constructors": func(b api.Term) api.Term { return con(1, b) },
		"lets first":   func(b api.Term) api.Term { return let("y", b, whole(1)) },
		"lets second":  func(b api.Term) api.Term { return let("y", whole(1), b) },
		"matches":      func(b api.Term) api.Term { return match(b, api.Case{Body: whole(1)}) },
		"cases":        func(b api.Term) api.Term { return match(variable("x"), api.Case{Body: b}) },
	} {
		checkedBody(t, api.OK, what, inside(api.MaxDeep, step))
		checkedBody(t, api.ErrDeep, what+" too deep", inside(api.MaxDeep+1, step))
	}
	wrong := inside(api.MaxDeep, func(b api.Term) api.Term { return con(1, b) })
	checkedBody(t, api.ErrDeep, "too deep ahead of what it is", con(1, con(1, wrong, api.Term{})))
}

func TestHowMuch(t *testing.T) {
	row := con(1, slices.Repeat([]api.Term{variable("x")}, 6)...) // 7 terms
	table := con(1, slices.Repeat([]api.Term{row}, 6)...)         // 43 terms
	half := con(1, table, table, table, table)                    // 173 terms
	rest := con(1, table, row)                                    // 51 terms
	exact := con(1, half, half, rest, whole(1), whole(1))         // 400 terms
	if Size(exact) != api.MaxSize {
		t.Fatalf("%d terms", Size(exact))
	}
	checkedBody(t, api.OK, "as much as may be", exact)
	more := con(1, append(slices.Clone(exact.Args), whole(1))...)
	checkedBody(t, api.ErrMuch, "one more", more)
	checked(t, api.ErrMuch, "the second function", api.Fn{Name: "f", Body: variable("y")}, api.Fn{Name: "g", Params: []string{"x"}, Body: more})
	cases := match(variable("x"), api.Case{Tag: 1, Body: exact})
	checkedBody(t, api.ErrMuch, "in a case", cases)
	many := api.Fn{Name: "f", Params: []string{"a", "b", "c", "d", "e", "g", "h"}, Body: more}
	checked(t, api.ErrMany, "parameters ahead of its size", many)
	checkedBody(t, api.ErrMuch, "size ahead of kinds", api.Term{Args: more.Args})
}

func TestWithoutEnd(t *testing.T) {
	loop := []api.Term{{Kind: api.TmCon}}
	loop[0].Args = loop
	checkedBody(t, api.ErrMuch, "a term in itself", loop[0])
}

func TestCheckChangesNothing(t *testing.T) {
	given := []api.Fn{{Name: "f", Params: []string{"x"}, Body: full()}}
	Check(given, text.Name)
	Free(given[0].Body)
	if !reflect.DeepEqual(given[0].Body, full()) {
		t.Error("what was handed in is changed")
	}
}
