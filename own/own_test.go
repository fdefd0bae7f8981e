package own

import (
	"slices"
	"strings"
	"testing"

	"exactchange/api"
	"exactchange/names"
	"exactchange/plain"
	"exactchange/scope"
	"exactchange/text"
)

// program reads a right program, and has it be plain.
func program(t *testing.T, s string) []api.Fn {
	t.Helper()
	l, err := text.Parse(s)
	if err != api.OK {
		t.Fatalf("%q: %d", s, err)
	}
	if err := scope.Check(l, text.Name); err != api.OK {
		t.Fatalf("%q is not right: %d", s, err)
	}
	return plain.All(l)
}

// body reads a term as it is written.
func body(t *testing.T, s string) api.Term {
	t.Helper()
	l, err := text.Parse("(fn f () " + s + ")")
	if err != api.OK {
		t.Fatalf("%q: %d", s, err)
	}
	return l[0].Body
}

// row is a function, and what must be written of its body when it counts.
type row struct{ given, want string }

func rows() []row {
	return []row{
		{"(fn f () 1)", "1"},
		{"(fn f (x) x)", "v1"},
		{"(fn f () (#0))", "(#0)"},
		{"(fn f () (f))", "(f)"},
		// what is not needed goes first, in turn
		{"(fn f (x) 1)", "(drop v1 1)"},
		{"(fn f (x y) x)", "(drop v2 v1)"},
		{"(fn f (x y z) y)", "(drop v1 (drop v3 v2))"},
		{"(fn f (x y) (#0))", "(drop v1 (drop v2 (#0)))"},
		// arguments that one ahead was
		{"(fn f (x y) (f y x))", "(f v2 v1)"},
		{"(fn f (x) (+ x x))", "(dup v1 (+ v1 v1))"},
		{"(fn f (x y) (f x x))", "(drop v2 (dup v1 (f v1 v1)))"},
		{"(fn f (x y z) (#1 z z z x))", "(drop v2 (dup v3 (dup v3 (#1 v3 v3 v3 v1))))"},
		{"(fn f (x y) (#1 x y y x))", "(dup v2 (dup v1 (#1 v1 v2 v2 v1)))"},
		{"(fn f (x y) (#1 x y x y x y))", "(dup v1 (dup v2 (dup v1 (dup v2 (#1 v1 v2 v1 v2 v1 v2)))))"},
		// lets: what both terms need, what one needs, what none does
		{"(fn f (x) (let y (#1 x) y))", "(let v2 (#1 v1) v2)"},
		{"(fn f (x) (let y (#1 x) x))", "(dup v1 (let v2 (#1 v1) (drop v2 v1)))"},
		{"(fn f (x) (let y 5 x))", "(let v2 5 (drop v2 v1))"},
		{"(fn f (x) (let y x 5))", "(let v2 v1 (drop v2 5))"},
		{"(fn f (x y) (let z 1 5))", "(drop v1 (drop v2 (let v3 1 (drop v3 5))))"},
		{"(fn f (x y) (let a (#1 y x) (#2 y a x)))", "(dup v1 (dup v2 (let v3 (#1 v2 v1) (#2 v2 v3 v1))))"},
		{"(fn f (x y z) (let a (#1 x y) (#2 y a)))", "(drop v3 (dup v2 (let v4 (#1 v1 v2) (#2 v2 v4))))"},
		{"(fn f (x) (let y (+ x x) (+ x x)))", "(dup v1 (let v2 (dup v1 (+ v1 v1)) (drop v2 (dup v1 (+ v1 v1)))))"},
		{"(fn f (x) (let a (#1) (let b (#2 a x) (#3 a x b))))", "(let v2 (#1) (dup v1 (dup v2 (let v3 (#2 v2 v1) (#3 v2 v1 v3)))))"},
		{"(fn f (x) (let a (let b x (#1 b x)) (#2 a x)))", "(dup v1 (let v3 (dup v1 (let v2 v1 (#1 v2 v1))) (#2 v3 v1)))"},
		{"(fn f (x y) (+ x 1))", "(drop v2 (let w1 1 (+ v1 w1)))"},
		{"(fn f (x) (f (+ x x)))", "(let w1 (dup v1 (+ v1 v1)) (f w1))"},
		// matches: what was matched goes as soon as what is needed of it is counted, if it is not needed itself
		{"(fn f (x) (match x (#0 () x)))", "(match v1 (#0 () v1))"},
		{"(fn f (x) (match x (#0 () 1)))", "(match v1 (#0 () (drop v1 1)))"},
		{"(fn f (x) (match x (#1 (a) 1)))", "(match v1 (#1 (v2) (drop v1 1)))"},
		{"(fn f (x) (match x (#1 (a b) b)))", "(match v1 (#1 (v2 v3) (dup v3 (drop v1 v3))))"},
		{"(fn f (x) (match x (#1 (a b) (#2 x a))))", "(match v1 (#1 (v2 v3) (dup v2 (#2 v1 v2))))"},
		{"(fn f (x) (match x (#1 (a b) (#2 b a b))))", "(match v1 (#1 (v2 v3) (dup v2 (dup v3 (drop v1 (dup v3 (#2 v3 v2 v3)))))))"},
		{"(fn f (l) (match l (#0 () 0) (#1 (x r) (+ x (f r)))))", "(match v1 (#0 () (drop v1 0)) (#1 (v2 v3) (dup v2 (dup v3 (drop v1 (let w1 (f v3) (+ v2 w1)))))))"},
		{"(fn f (p q) (match p (#0 () q) (#1 (a) a)))", "(match v1 (#0 () (drop v1 v2)) (#1 (v3) (dup v3 (drop v1 (drop v2 v3)))))"},
		{"(fn f (p q) (match p (#0 () 7) (#1 () p)))", "(drop v2 (match v1 (#0 () (drop v1 7)) (#1 () v1)))"},
		{"(fn f (p q) (match p (#0 () 7) (#1 () q)))", "(match v1 (#0 () (drop v1 (drop v2 7))) (#1 () (drop v1 v2)))"},
		{"(fn f (p q r) (match q (#0 () 7) (#1 () (#2 r p))))", "(match v2 (#0 () (drop v2 (drop v1 (drop v3 7)))) (#1 () (drop v2 (#2 v3 v1))))"},
		{"(fn f (x y) (match x (#1 (a b) (let c (#2 b a y) (#3 y a b c)))))", "(match v1 (#1 (v3 v4) (dup v3 (dup v4 (drop v1 (dup v2 (dup v3 (dup v4 (let v5 (#2 v4 v3 v2) (#3 v2 v3 v4 v5))))))))))"},
		{"(fn f (x y) (let z (match x (#0 () y) (#1 (a) a)) (#1 z y)))", "(dup v2 (let v4 (match v1 (#0 () (drop v1 v2)) (#1 (v3) (dup v3 (drop v1 (drop v2 v3))))) (#1 v4 v2)))"},
		{"(fn f (x) (match x (#1 (a) (match a (#1 (b) (#2 a b)) (#0 () x)))))", "(match v1 (#1 (v2) (dup v2 (match v2 (#1 (v3) (dup v3 (drop v1 (#2 v2 v3)))) (#0 () (drop v2 v1))))))"},
		{"(fn f (x) (match (f x) (#0 () x) (#1 (a) a)))", "(dup v1 (let w1 (f v1) (match w1 (#0 () (drop w1 v1)) (#1 (v2) (dup v2 (drop w1 (drop v1 v2)))))))"},
		// functions that are called as names are
		{"(fn v1 (x y) (v1 y y))", "(drop v1 (dup v2 (v1 v2 v2)))"},
	}
}

func TestEachNameIsUsedUpOnce(t *testing.T) {
	for _, r := range rows() {
		f := program(t, r.given)[0]
		got := Fn(f)
		if s := text.Term(got.Body); s != r.want {
			t.Errorf("%s: %s comes, not %s", r.given, s, r.want)
		}
		if got.Name != f.Name || !slices.Equal(got.Params, f.Params) {
			t.Errorf("%s: %s of %q comes", r.given, got.Name, got.Params)
		}
		if !scope.Same(Term(f.Body, f.Params), got.Body) {
			t.Errorf("%s: the body alone comes otherwise", r.given)
		}
	}
}

func TestErasedItIsWhatItWas(t *testing.T) {
	for _, r := range rows() {
		f := program(t, r.given)[0]
		if got := Erase(Fn(f).Body); !scope.Same(got, f.Body) {
			t.Errorf("%s: %s is left", r.given, text.Term(got))
		}
		if got := Erase(f.Body); !scope.Same(got, f.Body) {
			t.Errorf("%s: nothing counts, and %s is left", r.given, text.Term(got))
		}
	}
}

func TestWhatCountsHasNothingElse(t *testing.T) {
	got := Term(body(t, "(#1 x x)"), []string{"y", "x"})
	con := api.Term{Kind: api.TmCon, N: 1, Args: []api.Term{variable("x"), variable("x")}}
	want := api.Term{Kind: api.TmDrop, Name: "y", Args: []api.Term{{Kind: api.TmDup, Name: "x", Args: []api.Term{con}}}}
	if !scope.Same(got, want) {
		t.Errorf("%#v comes, not %#v", got, want)
	}
}

// ways goes all ways through a term that counts, and holds that each name is used up just once on each of them.
type ways struct {
	t    *testing.T
	what string
	in   map[string]string // what a case's name lies in
}

func (w ways) use(there map[string]int, name string) {
	if there[name]--; there[name] < 0 {
		w.t.Errorf("%s: %s is used up, and not there", w.what, name)
	}
}

func (w ways) end(there map[string]int) {
	for name, n := range there {
		if n > 0 {
			w.t.Errorf("%s: %s is there %d times at the end", w.what, name, n)
		}
	}
}

// term goes on with t, where so many of each name are there.
func (w ways) term(t api.Term, there map[string]int) {
	switch t.Kind {
	case api.TmVar:
		w.use(there, t.Name)
		w.end(there)
	case api.TmInt:
		w.end(there)
	case api.TmCon, api.TmCall, api.TmPrim:
		for _, a := range t.Args {
			w.use(there, a.Name)
		}
		w.end(there)
	case api.TmDup:
		if there[t.Name] == 0 && there[w.in[t.Name]] == 0 {
			w.t.Errorf("%s: %s is counted once more, and not there", w.what, t.Name)
		}
		there[t.Name]++
		w.term(t.Args[0], there)
	case api.TmDrop:
		w.use(there, t.Name)
		w.term(t.Args[0], there)
	case api.TmLet:
		first := map[string]int{}
		for _, name := range scope.Free(t.Args[0]) {
			if there[name] > 0 {
				first[name] = 1
				there[name]--
			}
		}
		w.term(t.Args[0], first)
		there[t.Name]++
		w.term(t.Args[1], there)
	case api.TmMatch:
		w.cases(t, there)
	default:
		w.t.Errorf("%s: kind %d comes", w.what, t.Kind)
	}
}

func (w ways) cases(t api.Term, there map[string]int) {
	of := t.Args[0].Name
	if there[of] == 0 {
		w.t.Errorf("%s: %s is opened, and not there", w.what, of)
	}
	for _, c := range t.Cases {
		for _, v := range c.Vars {
			w.in[v] = of
		}
		here := map[string]int{}
		for name, n := range there {
			here[name] = n
		}
		w.term(c.Body, here)
	}
}

// programs are some that do more than rows.
func programs() []string {
	return []string{
		"(fn f (l a) (match l (#0 () a) (#1 (x r) (f r (#1 x a)))))",
		"(fn f (l) (match l (#0 () (#0)) (#1 (x r) (#1 (+ x 1) (f r)))))",
		"(fn f (x) (let x (#1 x x) (let y (match x (#1 (a b) (#2 b b a))) (#3 x y x))))",
		"(fn f (t) (match t (#2 (a b) (match a (#2 (c d) (#2 d (#1 b c))) (#1 (z) (#4)) (#0 () t))) (#0 () 7)))",
		"(fn f (p q) (match p (#1 (a b) (match q (#1 (c d) (#1 a d)) (#0 () (#1 b a)))) (#0 () (f q p))))",
		"(fn f (x) (let y (let z (#1 x) (match z (#1 (a) (#2 a z)))) 5))",
		"(fn f (x y z) (#1 (match x (#0 () (+ y z)) (#1 (a) (f a a y))) (let x (f z y x) (#2 x x y)) (match (f x y z) (#3 (a b c) (f c (f b b a) z)))))",
		everything,
	}
}

func TestOnEachWayEachIsUsedUpOnce(t *testing.T) {
	l := programs()
	for _, r := range rows() {
		l = append(l, r.given)
	}
	for _, s := range l {
		f := Fn(program(t, s)[0])
		there := map[string]int{}
		for _, p := range f.Params {
			there[p]++
		}
		ways{t, text.Term(f.Body), map[string]string{}}.term(f.Body, there)
	}
}

func TestTermOfNamesThatAreOwned(t *testing.T) {
	for _, c := range []struct {
		given string
		owned []string
		want  string
	}{
		{"x", nil, "x"},
		{"x", []string{}, "x"},
		{"x", []string{"x"}, "x"},
		{"x", []string{"q", "x", "p"}, "(drop q (drop p x))"},
		{"5", []string{"b", "a", "c"}, "(drop b (drop a (drop c 5)))"},
		{"5", []string{"a", "a"}, "(drop a (drop a 5))"},
		{"(#1 x x)", []string{"x", "y"}, "(drop y (dup x (#1 x x)))"},
		{"(#1 y x y)", nil, "(dup y (#1 y x y))"},
		// the order is that of owned, not that of the term
		{"(let a (#1 z y x) (#2 x y z))", []string{"y", "x", "q", "z"}, "(drop q (dup y (dup x (dup z (let a (#1 z y x) (drop a (#2 x y z)))))))"},
		{"(let a (#1 z y x) (#2 x y z))", []string{"y"}, "(dup y (let a (#1 z y x) (drop a (#2 x y z))))"},
		// a let's name is another one than the same name outside
		{"(let x y x)", []string{"x", "y"}, "(drop x (let x y x))"},
		{"(let x x x)", []string{"x"}, "(let x x x)"},
		{"(let x (#1 x) (#2 x x))", []string{"x"}, "(let x (#1 x) (dup x (#2 x x)))"},
		{"(let x (#1 x y) (#2 x y))", []string{"x", "y"}, "(dup y (let x (#1 x y) (#2 x y)))"},
		{"(let x (#1 x) 5)", []string{"x"}, "(let x (#1 x) (drop x 5))"},
		// cases
		{"(match x (#0 () 1))", nil, "(match x (#0 () (drop x 1)))"},
		{"(match x (#1 (a) y) (#0 () x))", []string{"y", "x", "z"}, "(drop z (match x (#1 (a) (drop x y)) (#0 () (drop y x))))"},
		{"(match x (#1 (a b c) (#2 c a)))", []string{"x"}, "(match x (#1 (a b c) (dup a (dup c (drop x (#2 c a))))))"},
		{"(match x)", []string{"x", "y"}, "(drop y (match x))"},
	} {
		if got := text.Term(Term(body(t, c.given), c.owned)); got != c.want {
			t.Errorf("%s of %q: %s comes, not %s", c.given, c.owned, got, c.want)
		}
	}
}

func TestAllCountsEachFunctionByItself(t *testing.T) {
	l := program(t, "(fn f (x) (g x 1)) (fn g (a b) a) (fn h () (f 3))")
	want := "(fn f (v1) (let w1 1 (g v1 w1)))\n(fn g (v1 v2) (drop v2 v1))\n(fn h () (let w1 3 (f w1)))\n"
	if got := text.Print(All(l)); got != want {
		t.Errorf("%s comes, not %s", got, want)
	}
	for _, l := range [][]api.Fn{nil, {}} {
		if got := All(l); len(got) != 0 {
			t.Errorf("%v comes of nothing", got)
		}
	}
}

func TestManyOwned(t *testing.T) {
	owned := make([]string, 1<<16-2)
	for i, next := 0, names.Numbered("q"); i < len(owned); i++ {
		owned[i] = next()
	}
	got := Term(of(api.TmCall, variable("q7"), variable("q7")), owned)
	for i, name := range owned {
		if name == "q7" {
			continue
		}
		if got.Kind != api.TmDrop || got.Name != name || len(got.Args) != 1 {
			t.Fatalf("at %d: kind %d of %s comes", i, got.Kind, got.Name)
		}
		got = got.Args[0]
	}
	if s := text.Term(got); s != "(dup q7 (n q7 q7))" {
		t.Errorf("%s comes at last", s)
	}
}

func TestLargeBodies(t *testing.T) {
	six := of(api.TmCon)
	for range api.MaxVars {
		six.Args = append(six.Args, variable("x"))
	}
	b := variable("x")
	for range api.MaxDeep - 1 {
		b = of(api.TmCon, six, six, b)
	}
	l := []api.Fn{{Name: "f", Params: []string{"x"}, Body: b}}
	if err := scope.Check(l, text.Name); err != api.OK {
		t.Fatalf("it is not right: %d", err)
	}
	l = plain.All(l)
	got := All(l)[0]
	ways{t, "a large one", map[string]string{}}.term(got.Body, map[string]int{"v1": 1})
	// Each place but one where the name stands needs it once more.
	dups := strings.Count(text.Term(got.Body), "(dup v1 ")
	if want := 2*6*(api.MaxDeep-1) + 1 - 1; dups != want {
		t.Errorf("%d times it is counted once more, not %d", dups, want)
	}
	if !scope.Same(Erase(got.Body), l[0].Body) {
		t.Error("erased it is another one")
	}
}

func variable(name string) api.Term { return api.Term{Kind: api.TmVar, Name: name} }

func of(kind int, args ...api.Term) api.Term {
	return api.Term{Kind: kind, N: 1, Name: "n", Args: args}
}

// everything has a term of each kind that a right program may have, names that are needed again, and names that are not.
const everything = "(fn f (x y) (let z (+ x x) (match (f y 2) (#1 (a b) (#2 a (f z 3) x)) (#0 () 7))))"

func TestTermsThatAreNotPlainStay(t *testing.T) {
	x, five := variable("x"), api.Term{Kind: api.TmInt, N: 5}
	for _, b := range []api.Term{
		of(api.TmPrim, five, five), of(api.TmCall, five, x, five), of(api.TmMatch, five), of(api.TmLet, x), of(api.TmLet, x, x, x),
		of(99, x, x), of(api.TmUse, x, x),
	} {
		if got := Term(b, []string{"x"}[:min(1, len(scope.Free(b)))]); !scope.Same(got, b) {
			t.Errorf("%#v comes, not %#v", got, b)
		}
	}
}

func TestWrongTerms(t *testing.T) {
	x, five := variable("x"), api.Term{Kind: api.TmInt, N: 5}
	m := func(args ...api.Term) api.Term {
		m := of(api.TmMatch, args...)
		m.Cases = []api.Case{{Vars: []string{"a", "a"}, Body: x}, {Body: api.Term{}}}
		return m
	}
	for _, b := range []api.Term{
		{}, of(-1), of(99, x), of(api.TmVar, x), of(api.TmInt, x), of(api.TmLet), of(api.TmLet, x), of(api.TmLet, x, x, x),
		of(api.TmCon, five, five), of(api.TmPrim), of(api.TmPrim, x), of(api.TmCall, of(api.TmLet)), m(), m(x, x), m(five), m(of(api.TmMatch)),
		of(api.TmDup), of(api.TmDup, x), of(api.TmTake, x, x), of(api.TmUse, x), of(api.TmFree),
	} {
		for _, owned := range [][]string{nil, {"x"}, {"y", "", "x", "n", "y"}} {
			got := Term(b, owned)
			if again := Term(b, owned); !scope.Same(got, again) {
				t.Errorf("%#v: %#v comes, and then %#v", b, got, again)
			}
			Erase(got)
			Fn(api.Fn{Params: owned, Body: b})
		}
	}
	if got := Fn(api.Fn{}); got.Name != "" || len(got.Params) != 0 || !scope.Same(got.Body, api.Term{}) {
		t.Errorf("%#v comes", got)
	}
}
