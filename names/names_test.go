package names

import (
	"reflect"
	"strings"
	"testing"

	"exactchange/api"
	"exactchange/scope"
	"exactchange/text"
)

// program reads a right program.
func program(t *testing.T, s string) []api.Fn {
	t.Helper()
	l, err := text.Parse(s)
	if err != api.OK {
		t.Fatalf("%q: %d", s, err)
	}
	if err := scope.Check(l, text.Name); err != api.OK {
		t.Fatalf("%q is not right: %d", s, err)
	}
	return l
}

// renamed are functions, and what they must be written as when each name is another one.
func renamed() map[string]string {
	return map[string]string{
		"(fn f () 1)":                                                    "(fn f () 1)",
		"(fn f (x) x)":                                                   "(fn f (v1) v1)",
		"(fn f (x y) (let x (+ x y) x))":                                 "(fn f (v1 v2) (let v3 (+ v1 v2) v3))",
		"(fn f (a b c d e g) (#9 g e d c b a))":                          "(fn f (v1 v2 v3 v4 v5 v6) (#9 v6 v5 v4 v3 v2 v1))",
		"(fn f (x) (let y (let z x z) (+ x y)))":                         "(fn f (v1) (let v3 (let v2 v1 v2) (+ v1 v3)))",
		"(fn f (x) (let y x (let y (let y y y) y)))":                     "(fn f (v1) (let v2 v1 (let v4 (let v3 v2 v3) v4)))",
		"(fn f (x) (#1 (let y x y) x (let y x y)))":                      "(fn f (v1) (#1 (let v2 v1 v2) v1 (let v3 v1 v3)))",
		"(fn f (x) (+ (let x 1 x) x))":                                   "(fn f (v1) (+ (let v2 1 v2) v1))",
		"(fn f (x y) (match (let z x z) (#1 (a y) (#2 y a)) (#0 () y)))": "(fn f (v1 v2) (match (let v3 v1 v3) (#1 (v4 v5) (#2 v5 v4)) (#0 () v2)))",
		"(fn f (x) (match x (#1 (x r) (let s x (f r))) (#2 (x) x)))":     "(fn f (v1) (match v1 (#1 (v2 v3) (let v4 v2 (f v3))) (#2 (v5) v5)))",
		"(fn f (x) (match x (#1 (a) (match a (#1 (a) a))) (#2 (a) a)))":  "(fn f (v1) (match v1 (#1 (v2) (match v2 (#1 (v3) v3))) (#2 (v4) v4)))",
		// names of functions stay, also where a name within is called the same
		"(fn f (f) (f f))":                       "(fn f (v1) (f v1))",
		"(fn v2 (x v1) (v2 v1 (let v2 x v2)))":   "(fn v2 (v1 v2) (v2 v2 (let v3 v1 v3)))",
		"(fn f (let) (let match let (f match)))": "(fn f (v1) (let v2 v1 (f v2)))",
		// names that are numbered already, in another order
		"(fn f (v2 v1) (let v3 v1 (+ v2 v3)))":          "(fn f (v1 v2) (let v3 v2 (+ v1 v3)))",
		"(fn f (v3) (let v1 v3 (let v2 v1 (- v2 v3))))": "(fn f (v1) (let v2 v1 (let v3 v2 (- v3 v1))))",
	}
}

func TestNamesAreNumberedAsTheyAreBound(t *testing.T) {
	for s, want := range renamed() {
		got := text.Print([]api.Fn{Fn(program(t, s)[0])})
		if got != want+"\n" {
			t.Errorf("%s: %s comes, not %s", s, got, want)
		}
	}
}

func TestRenamedTwiceIsRenamedOnce(t *testing.T) {
	for s := range renamed() {
		once := Fn(program(t, s)[0])
		if twice := Fn(once); !reflect.DeepEqual(once, twice) {
			t.Errorf("%s: %#v comes, and then %#v", s, once, twice)
		}
	}
}

func TestManyNames(t *testing.T) {
	s := "x"
	for range 12 {
		s = "(let y (let z x z) " + s + ")"
	}
	got := text.Print(All(program(t, "(fn f (x) "+s+")")))
	if want := "(let v25 (let v24 v1 v24) v1" + strings.Repeat(")", 13) + "\n"; !strings.HasSuffix(got, want) {
		t.Errorf("%s comes", got)
	}
}

func TestAllNumbersEachFunctionByItself(t *testing.T) {
	got := text.Print(All(program(t, "(fn f (x) (g x x)) (fn g (a b) (let c a b)) (fn h () (f 1))")))
	want := "(fn f (v1) (g v1 v1))\n(fn g (v1 v2) (let v3 v1 v2))\n(fn h () (f 1))\n"
	if got != want {
		t.Errorf("%s comes, not %s", got, want)
	}
	for _, l := range [][]api.Fn{nil, {}} {
		if got := All(l); len(got) != 0 {
			t.Errorf("%v comes of nothing", got)
		}
	}
}

func TestAlike(t *testing.T) {
	for _, c := range []struct {
		a, b string
		want bool
	}{
		{"(fn f (a b) (let c a (+ c b)))", "(fn f (x y) (let x x (+ x y)))", true},
		{"(fn f (l) (match l (#1 (x r) (f r)) (#0 () l)))", "(fn f (m) (match m (#1 (a m) (f m)) (#0 () m)))", true},
		{"(fn f () 1)", "(fn f () 1)", true},
		{"(fn f (x) x)", "(fn g (x) x)", false},
		{"(fn f (x) 1)", "(fn f () 1)", false},
		{"(fn f (x y) x)", "(fn f (x y) y)", false},
		{"(fn f (x y) x)", "(fn f (y x) y)", true},
		{"(fn f (x) (let y x y))", "(fn f (x) (let y x x))", false},
		{"(fn f (x) (let y x x))", "(fn f (x) x)", false},
		{"(fn f (x) (+ x 1))", "(fn f (x) (- x 1))", false},
		{"(fn f (x) (+ x 1))", "(fn f (x) (+ x 2))", false},
		{"(fn f (x) (#1 x))", "(fn f (x) (#2 x))", false},
		{"(fn f (x) (#1 x))", "(fn f (x) (#1))", false},
		{"(fn f (x) (f x)) (fn g (x) x)", "(fn f (x) (g x)) (fn g (x) x)", false},
		{"(fn f (x) (match x (#0 () x)))", "(fn f (x) (match x (#1 () x)))", false},
		{"(fn f (x) (match x (#0 () x)))", "(fn f (x) (match x (#0 (a) x)))", false},
		{"(fn f (x) (match x (#0 (a) x)))", "(fn f (x) (match x (#0 (x) x)))", false},
		{"(fn f (x) (match x (#0 () 1) (#1 () 2)))", "(fn f (x) (match x (#1 () 2) (#0 () 1)))", false},
	} {
		a, b := program(t, c.a)[0], program(t, c.b)[0]
		if Alike(a, b) != c.want || Alike(b, a) != c.want {
			t.Errorf("%s and %s: whether they are alike should be %v", c.a, c.b, c.want)
		}
	}
}

// everything has a term of each kind that a right program may have.
const everything = "(fn f (x y) (let z (+ x 1) (match y (#1 (a b) (#2 a (f z b))) (#0 () 7))))"

// litter writes something into all fields of terms in t that their kinds have not.
func litter(t api.Term) api.Term {
	t.Token, t.Vars = "litter", []string{"litter"}
	switch t.Kind {
	case api.TmVar, api.TmCall, api.TmLet:
		t.N = 77
	case api.TmInt, api.TmCon, api.TmPrim:
		t.Name = "litter"
	default:
		t.N, t.Name = 77, "litter"
	}
	for i, a := range t.Args {
		t.Args[i] = litter(a)
	}
	for i, c := range t.Cases {
		t.Cases[i].Body = litter(c.Body)
	}
	return t
}

func TestFieldsThatMeanNothingAreNotToldOn(t *testing.T) {
	f, g := program(t, everything)[0], program(t, everything)[0]
	g.Body = litter(g.Body)
	if err := scope.Check([]api.Fn{g}, text.Name); err != api.OK {
		t.Fatalf("it should be right still: %d", err)
	}
	if !Alike(f, g) || !Alike(g, f) {
		t.Error("they should be alike")
	}
	if got, want := text.Print([]api.Fn{Fn(g)}), text.Print([]api.Fn{Fn(f)}); got != want {
		t.Errorf("%s comes, not %s", got, want)
	}
	bareOf(t, Fn(g).Body)
}

// bareOf holds that nothing of litter is left in b.
func bareOf(t *testing.T, b api.Term) {
	t.Helper()
	if b.Token != "" || b.Vars != nil || b.N == 77 || b.Name == "litter" {
		t.Errorf("%#v comes", b)
	}
	for _, a := range b.Args {
		bareOf(t, a)
	}
	for _, c := range b.Cases {
		bareOf(t, c.Body)
	}
}

// spare gives each list in f room behind it, with litter there.
func spare(f api.Fn) api.Fn {
	f.Params = append(f.Params, "spare")[:len(f.Params)]
	f.Body = spareTerm(f.Body)
	return f
}

func spareTerm(t api.Term) api.Term {
	args := make([]api.Term, 0, len(t.Args)+1)
	for _, a := range t.Args {
		args = append(args, spareTerm(a))
	}
	cases := make([]api.Case, 0, len(t.Cases)+1)
	for _, c := range t.Cases {
		c.Vars = append(c.Vars, "spare")[:len(c.Vars)]
		c.Body = spareTerm(c.Body)
		cases = append(cases, c)
	}
	t.Args = append(args, api.Term{Kind: api.TmVar, Name: "spare"})[:len(args)]
	t.Cases = append(cases, api.Case{Tag: 9})[:len(cases)]
	return t
}

// spoil writes over all that t can reach, spare room too.
func spoil(t *api.Term) {
	for i := range t.Args[:cap(t.Args)] {
		spoil(&t.Args[:cap(t.Args)][i])
	}
	for i := range t.Cases[:cap(t.Cases)] {
		c := &t.Cases[:cap(t.Cases)][i]
		spoilNames(c.Vars)
		spoil(&c.Body)
		c.Tag = -1
	}
	t.Kind, t.N, t.Name = -1, -1, "spoilt"
}

func spoilNames(l []string) {
	for i := range l[:cap(l)] {
		l[:cap(l)][i] = "spoilt"
	}
}

func TestWhatIsHandedInIsOnlyRead(t *testing.T) {
	given, before := spare(program(t, everything)[0]), spare(program(t, everything)[0])
	got := All([]api.Fn{given})
	want := text.Print(got)
	Alike(given, given)
	if !reflect.DeepEqual(full(given), full(before)) {
		t.Errorf("%#v is left", given)
	}
	spoilNames(given.Params)
	spoil(&given.Body)
	if text.Print(got) != want {
		t.Errorf("%s is left of it", text.Print(got))
	}
	again := spare(program(t, everything)[0])
	made := Fn(again)
	spoilNames(made.Params)
	spoil(&made.Body)
	if !reflect.DeepEqual(full(again), full(before)) {
		t.Errorf("%#v is left", again)
	}
}

// full is f with the spare room of its lists told, too.
func full(f api.Fn) api.Fn {
	f.Params = f.Params[:cap(f.Params)]
	f.Body = fullTerm(f.Body)
	return f
}

func fullTerm(t api.Term) api.Term {
	var args []api.Term
	for _, a := range t.Args[:cap(t.Args)] {
		args = append(args, fullTerm(a))
	}
	var cases []api.Case
	for _, c := range t.Cases[:cap(t.Cases)] {
		cases = append(cases, api.Case{Tag: c.Tag, Vars: c.Vars[:cap(c.Vars)], Body: fullTerm(c.Body)})
	}
	t.Args, t.Cases = args, cases
	return t
}

func TestNoListsOfAnAnswerShare(t *testing.T) {
	shared := []api.Term{{Kind: api.TmVar, Name: "x"}, {Kind: api.TmInt, N: 1}}
	sum := api.Term{Kind: api.TmPrim, N: api.PrimAdd, Args: shared}
	f := api.Fn{Name: "f", Params: []string{"x"}, Body: api.Term{Kind: api.TmPrim, N: api.PrimMul, Args: []api.Term{sum, sum}}}
	got := All([]api.Fn{f, f})
	spoilNames(got[0].Params)
	spoil(&got[0].Body.Args[0])
	got[0].Params, got[0].Body.Args = []string{"v1"}, got[0].Body.Args[1:]
	if s := text.Print(got); s != "(fn f (v1) (* (+ v1 1)))\n(fn f (v1) (* (+ v1 1) (+ v1 1)))\n" {
		t.Errorf("%s is left", s)
	}
}

func TestFunctionsOfNoRightProgram(t *testing.T) {
	x := api.Term{Kind: api.TmVar, Name: "x"}
	for _, b := range []api.Term{
		{}, {Kind: -1}, {Kind: 99, Args: []api.Term{x}}, x,
		{Kind: api.TmLet, Name: "y"}, {Kind: api.TmLet, Name: "y", Args: []api.Term{x}},
		{Kind: api.TmLet, Name: "y", Args: []api.Term{x, x, x}}, {Kind: api.TmPrim}, {Kind: api.TmMatch},
		{Kind: api.TmMatch, Cases: []api.Case{{Vars: []string{"a", "a"}, Body: x}}},
	} {
		f := api.Fn{Params: []string{"p", "p"}, Body: b}
		if got := Fn(f); !reflect.DeepEqual(got.Params, []string{"v1", "v2"}) || !Alike(f, f) {
			t.Errorf("%#v: %#v comes", f, got)
		}
	}
	if !Alike(api.Fn{}, api.Fn{}) || !Alike(api.Fn{Params: []string{}}, api.Fn{}) {
		t.Error("two functions of nothing should be alike")
	}
}

func TestNumbered(t *testing.T) {
	a, b := Numbered("v"), Numbered("w")
	if got := a() + a() + b() + a() + b(); got != "v1v2w1v3w2" {
		t.Errorf("%s comes", got)
	}
}
