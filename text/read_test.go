package text

import (
	"math"
	"reflect"
	"strconv"
	"strings"
	"testing"

	"exactchange/api"
)

func variable(name string) api.Term { return api.Term{Kind: api.TmVar, Name: name} }

func whole(n int) api.Term { return api.Term{Kind: api.TmInt, N: n} }

func con(n int, args ...api.Term) api.Term { return api.Term{Kind: api.TmCon, N: n, Args: args} }

func call(name string, args ...api.Term) api.Term {
	return api.Term{Kind: api.TmCall, Name: name, Args: args}
}

func prim(p int, a, b api.Term) api.Term {
	return api.Term{Kind: api.TmPrim, N: p, Args: []api.Term{a, b}}
}

func let(name string, a, b api.Term) api.Term {
	return api.Term{Kind: api.TmLet, Name: name, Args: []api.Term{a, b}}
}

func match(a api.Term, cases ...api.Case) api.Term {
	return api.Term{Kind: api.TmMatch, Args: []api.Term{a}, Cases: cases}
}

// body reads s as the term of a function.
func body(t *testing.T, s string) api.Term {
	t.Helper()
	l, err := Parse("(fn f () " + s + ")")
	if err != api.OK || len(l) != 1 {
		t.Fatalf("%q: %d, %d functions", s, err, len(l))
	}
	return l[0].Body
}

func TestTermsAreRead(t *testing.T) {
	x, y := variable("x"), variable("y")
	for _, c := range []struct {
		s    string
		want api.Term
	}{
		{"x", x},
		{"let", variable("let")},
		{"0", whole(0)},
		{"7", whole(7)},
		{"-10", whole(-10)},
		{strconv.Itoa(math.MaxInt), whole(math.MaxInt)},
		{strconv.Itoa(math.MinInt), whole(math.MinInt)},
		{"(#0)", con(0)},
		{"(#12 x y 3)", con(12, x, y, whole(3))},
		{"(#-1 x)", con(-1, x)},
		{"(g)", call("g")},
		{"(g x (h y))", call("g", x, call("h", y))},
		{"(fn x)", call("fn", x)},
		{"(dup x y)", call("dup", x, y)},
		{"(+ x y)", prim(api.PrimAdd, x, y)},
		{"(- x y)", prim(api.PrimSub, x, y)},
		{"(* x y)", prim(api.PrimMul, x, y)},
		{"(< x y)", prim(api.PrimLess, x, y)},
		{"(= x y)", prim(api.PrimSame, x, y)},
		{"(+ -1 (- 2 x))", prim(api.PrimAdd, whole(-1), prim(api.PrimSub, whole(2), x))},
		{"(let x y x)", let("x", y, x)},
		{"(let let let let)", let("let", variable("let"), variable("let"))},
		{"(match x)", match(x)},
		{"(match x (#0 () 1) (#-2 (a b) a))", match(x, api.Case{Body: whole(1)}, api.Case{Tag: -2, Vars: []string{"a", "b"}, Body: variable("a")})},
		{"(match (g) (#1 (x x) (match x)) (#1 () y))", match(call("g"), api.Case{Tag: 1, Vars: []string{"x", "x"}, Body: match(x)}, api.Case{Tag: 1, Body: y})},
	} {
		if got := body(t, c.s); !reflect.DeepEqual(got, c.want) {
			t.Errorf("%q: %#v comes, not %#v", c.s, got, c.want)
		}
	}
}

func TestFunctionsAreRead(t *testing.T) {
	f := api.Fn{Name: "f", Params: []string{"x", "y"}, Body: variable("x")}
	g := api.Fn{Name: "g", Body: call("f", whole(1), whole(2))}
	for _, c := range []struct {
		s    string
		want []api.Fn
	}{
		{"", nil},
		{" \n\t ", nil},
		{"(fn f (x y) x)", []api.Fn{f}},
		{"(fn g () (f 1 2))", []api.Fn{g}},
		{"\t( fn\nf(x y)x )\n\n(fn g()(f 1 2))", []api.Fn{f, g}},
		{"(fn f (x y) x)(fn f (x y) x)", []api.Fn{f, f}},
		{"(fn fn (fn) fn)", []api.Fn{{Name: "fn", Params: []string{"fn"}, Body: variable("fn")}}},
	} {
		if got, err := Parse(c.s); err != api.OK || !reflect.DeepEqual(got, c.want) {
			t.Errorf("%q: %d, %#v comes, not %#v", c.s, err, got, c.want)
		}
	}
}

// fails: Parse tells err of s, and nothing beside it.
func fails(t *testing.T, err api.Errno, texts ...string) {
	t.Helper()
	for _, s := range texts {
		if l, got := Parse(s); got != err || len(l) != 0 {
			t.Errorf("%q: %d, %d functions; not %d", s, got, len(l), err)
		}
	}
}

func TestEndsTooSoon(t *testing.T) {
	const s = "(fn f (x) (let y (match x (#1 (a b) (+ a 1))) (#2 (g y))))"
	words := split(s)
	for n := 1; n < len(words); n++ {
		fails(t, api.ErrEnd, strings.Join(words[:n], " "))
	}
	if _, err := Parse(s); err != api.OK {
		t.Errorf("the whole text: %d", err)
	}
	fails(t, api.ErrEnd, "(fn f (x) x) (")
}

func TestWrongNames(t *testing.T) {
	for _, w := range []string{"X", "1x", "a_b", "#1", "+", "?", "abcdefghi", "(", "x\r", "é"} {
		fails(t, api.ErrName, "(fn "+w+" () 1)", "(fn f ("+w+") 1)", "(fn f (x "+w+" y) 1)", "(fn f () (let "+w+" 1 2))", "(fn f () (match 1 (#1 (a "+w+") 2)))")
	}
	for _, w := range []string{"X", "1x", "a_b", "#1", "+", "?", "abcdefghi", ")", "05", "+5", "00", "-05", "-0", "-", "--1", "1.0", "0x1", "1_0", "1e3", "9223372036854775808", "-9223372036854775809"} {
		fails(t, api.ErrName, "(fn f () "+w+")", "(fn f () (let x "+w+" 1))", "(fn f () (= 1 "+w+"))", "(fn f () (match "+w+"))", "(fn f () (match 1 (#1 () "+w+")))")
	}
	for _, w := range []string{"X", ")", "(", "5", "-5", "++", "+x", "<=", "?", "abcdefghi"} {
		fails(t, api.ErrName, "(fn f () ("+w+" 1 2))")
	}
	fails(t, api.ErrName, "(fn f () (g X))", "(fn f () (#1 x #2))", "(fn ) () 1)", "(fn f () (let ) 1 2))")
}

func TestWrongForms(t *testing.T) {
	for _, w := range []string{"x", "5", ")", "fn", "#1", "[", "\r", "\v", "\x00"} {
		fails(t, api.ErrForm, w, "(fn f () 1) "+w, "(fn f "+w+" 1)")
	}
	for _, w := range []string{"#", "#a", "#01", "#+1", "#-", "#-0", "##1", "#1a", "#9223372036854775808"} {
		fails(t, api.ErrForm, "(fn f () ("+w+" 1))", "(fn f () (match 1 ("+w+" () 1)))")
	}
	fails(t, api.ErrForm, "(fun f (x) x)", "((fn f (x) x)", "()", "(fn f () 1 2)", "(fn f () 1 (fn g () 1))", "(fn f () 1))",
		"(fn f () (+ 1 2 3))", "(fn f () (let x 1 2 3))", "(fn f () (let x 1 2 (g)))",
		"(fn f () (match 1 2))", "(fn f () (match 1 #1))", "(fn f () (match 1 (x () 1)))", "(fn f () (match 1 (1 () 1)))", "(fn f () (match 1 (() 1)))", "(fn f () (match 1 ((#1 () 1))))",
		"(fn f () (match 1 (#1 a 1)))", "(fn f () (match 1 (#1 1)))", "(fn f () (match 1 (#1)))", "(fn f () (match 1 (#1 () 1 2)))")
}

func TestTooMuch(t *testing.T) {
	const s = "(fn f () 1)"
	room := strings.Repeat(" ", api.MaxText-len(s))
	if l, err := Parse(s + room); err != api.OK || len(l) != 1 {
		t.Errorf("MaxText bytes: %d, %d functions", err, len(l))
	}
	fails(t, api.ErrMuch, s+room+" ", strings.Repeat(")", api.MaxText+1), strings.Repeat("\x00", 1<<20))
	fails(t, api.ErrForm, strings.Repeat(")", api.MaxText))
}

// nested has the last word lie in n terms of one shape.
func nested(n int, open, word, close string) string {
	return "(fn f () " + strings.Repeat(open, n) + word + strings.Repeat(close, n) + ")"
}

func TestTooDeep(t *testing.T) {
	for _, c := range [][2]string{{"(#1 ", ")"}, {"(g 1 ", ")"}, {"(+ ", " 1)"}, {"(< 1 ", ")"}, {"(let x ", " 1)"}, {"(let x 1 ", ")"}, {"(match ", ")"}, {"(match 1 (#0 () ", "))"}} {
		for _, word := range []string{"x", "1", "(#1)", "(g)"} {
			if _, err := Parse(nested(api.MaxDeep, c[0], word, c[1])); err != api.OK {
				t.Errorf("%q: MaxDeep around %q: %d", c[0], word, err)
			}
			fails(t, api.ErrDeep, nested(api.MaxDeep+1, c[0], word, c[1]))
		}
	}
	if _, err := Parse(nested(api.MaxDeep+1, "(#1 ", "", ")")); err != api.OK {
		t.Errorf("nothing lies too deep: %d", err)
	}
}

func TestFirstErrorCounts(t *testing.T) {
	deep := strings.Repeat("(#1 ", api.MaxDeep+1)
	fails(t, api.ErrDeep, "(fn f () "+deep+"(", "(fn f () "+deep+"(X", "(fn f () "+deep+"x X", "(fn f () "+deep+"1 (# ")
	fails(t, api.ErrName, "(fn f () "+deep+"X", "(fn f () "+deep+"#1", "(fn f () (g X "+deep+"x", "(fn F x", "(fn f (X 1", "(fn f () (let 5 x")
	fails(t, api.ErrEnd, "(fn f () "+deep, "(fn f () "+strings.Repeat("(+ ", api.MaxDeep+1))
	fails(t, api.ErrForm, "(fun F", "(fn f x X", "(fn f () (# X", "(fn f () (match 1 X", "(fn f () (match 1 (X X", ") (fn f () X)")
}

// Whatever short row of words it is given, it ends, tells nothing beside an error, and what it reads is read alike when it is written.
func TestRowsOfWords(t *testing.T) {
	words := []string{"(", ")", "fn", "let", "match", "#1", "+", "x", "1", "X"}
	var row func(s string, n int)
	row = func(s string, n int) {
		l, err := Parse(s)
		again, errAgain := Parse(Print(l))
		if err != api.OK && len(l) != 0 || errAgain != api.OK || !reflect.DeepEqual(l, again) && len(l) > 0 {
			t.Fatalf("%q: %d, %d", s, err, errAgain)
		}
		if n == 0 {
			return
		}
		for _, w := range words {
			row(s+" "+w, n-1)
		}
	}
	for _, s := range []string{"", "(fn f () ", "(fn f (x) (let x ", "(fn f (x) (match x "} {
		row(s, 4)
	}
}

func TestAnsweredListsAreApart(t *testing.T) {
	const s = "(fn f (x y z) (#1 x y (g x y z))) (fn g (a b c) (match a (#1 (p q r) p) (#2 (u v w) u)))"
	l, _ := Parse(s)
	spoil := func(names []string) {
		for i := range names[:cap(names)] {
			names[:cap(names)][i] = "no"
		}
	}
	want := Print(l[1:])
	spoil(l[0].Params)
	for i := range l[0].Body.Args[:cap(l[0].Body.Args)] {
		l[0].Body.Args[:cap(l[0].Body.Args)][i] = whole(0)
	}
	if got := Print(l[1:]); got != want {
		t.Errorf("%q comes, not %q", got, want)
	}
	cases := l[1].Body.Cases
	spoil(cases[0].Vars)
	if got := strings.Join(cases[1].Vars, " "); got != "u v w" {
		t.Errorf("%q comes", got)
	}
	if again, _ := Parse(s); Print(again[1:]) != want {
		t.Error("a second call answers something else")
	}
}
