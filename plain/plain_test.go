package plain

import (
	"reflect"
	"strconv"
	"strings"
	"testing"

	"exactchange/api"
	"exactchange/eval"
	"exactchange/names"
	"exactchange/scope"
	"exactchange/text"
)

// program reads a right program.
func program(t *testing.T, s string) []api.Fn {
	t.Helper()
	l, err := text.Parse(s)
	if err != api.OK {
		t.Fatalf("%q: %d", s, err)
	}
	if err := scope.Check(l, text.Name); err != api.OK {
		t.Fatalf("%q is not right: %d", s, err)
	}
	return l
}

// row is a function, what it must be written as when it is plain, and whether it was so.
type row struct {
	given, want string
	was         bool
}

func rows() []row {
	return []row{
		{"(fn f () 1)", "(fn f () 1)", true},
		{"(fn f (x) x)", "(fn f (v1) v1)", true},
		{"(fn f () (#0))", "(fn f () (#0))", true},
		{"(fn f () (f))", "(fn f () (f))", true},
		{"(fn f (x y) (+ y x))", "(fn f (v1 v2) (+ v2 v1))", true},
		// one argument, at each place
		{"(fn f (x) (+ x 1))", "(fn f (v1) (let w1 1 (+ v1 w1)))", false},
		{"(fn f (x) (+ 1 x))", "(fn f (v1) (let w1 1 (+ w1 v1)))", false},
		{"(fn f (x) (f -7))", "(fn f (v1) (let w1 -7 (f w1)))", false},
		{"(fn f (x y) (#3 y (f y x) x))", "(fn f (v1 v2) (let w1 (f v2 v1) (#3 v2 w1 v1)))", false},
		{"(fn f (x) (f (#0)))", "(fn f (v1) (let w1 (#0) (f w1)))", false},
		// several, the first one outermost
		{"(fn f () (#1 4 5 6))", "(fn f () (let w1 4 (let w2 5 (let w3 6 (#1 w1 w2 w3)))))", false},
		{"(fn f (x) (#1 4 x 6))", "(fn f (v1) (let w1 4 (let w2 6 (#1 w1 v1 w2))))", false},
		{"(fn f () (* 3 3))", "(fn f () (let w1 3 (let w2 3 (* w1 w2))))", false},
		// the outer one ahead of those within, and these ahead of the next one
		{"(fn f (x) (+ (* x 2) x))", "(fn f (v1) (let w1 (let w2 2 (* v1 w2)) (+ w1 v1)))", false},
		{"(fn f (x) (+ (* x 2) 3))", "(fn f (v1) (let w1 (let w2 2 (* v1 w2)) (let w3 3 (+ w1 w3))))", false},
		{"(fn f (x) (#1 (#2 (#3 1) 2) 3))", "(fn f (v1) (let w1 (let w2 (let w3 1 (#3 w3)) (let w4 2 (#2 w2 w4))) (let w5 3 (#1 w1 w5))))", false},
		// lets have both terms plain, and are arguments themselves
		{"(fn f (x) (let y 1 y))", "(fn f (v1) (let v2 1 v2))", true},
		{"(fn f (x) (let y (+ x 1) (- y 2)))", "(fn f (v1) (let v2 (let w1 1 (+ v1 w1)) (let w2 2 (- v2 w2))))", false},
		{"(fn f (x) (let y (let z (f x) z) (f y)))", "(fn f (v1) (let v3 (let v2 (f v1) v2) (f v3)))", true},
		{"(fn f (x) (f (let y (f 1) (+ y x))))", "(fn f (v1) (let w1 (let v2 (let w2 1 (f w2)) (+ v2 v1)) (f w1)))", false},
		{"(fn f (x) (let x (+ x x) (let x (#1 x x) x)))", "(fn f (v1) (let v2 (+ v1 v1) (let v3 (#1 v2 v2) v3)))", true},
		// matches: what is matched, then the cases, case by case
		{"(fn f (x) (match x (#0 () x)))", "(fn f (v1) (match v1 (#0 () v1)))", true},
		{"(fn f (x) (match x (#0 () 5) (#1 (a) a)))", "(fn f (v1) (match v1 (#0 () 5) (#1 (v2) v2)))", true},
		{"(fn f (x) (match (f x) (#0 () x)))", "(fn f (v1) (let w1 (f v1) (match w1 (#0 () v1))))", false},
		{"(fn f (x) (match x (#2 (a) (f a)) (#0 () (f 1))))", "(fn f (v1) (match v1 (#2 (v2) (f v2)) (#0 () (let w1 1 (f w1)))))", false},
		{"(fn f (x) (match (f 1) (#0 () (f 2)) (#1 (a b) (+ a (f b)))))", "(fn f (v1) (let w1 (let w2 1 (f w2)) (match w1 (#0 () (let w3 2 (f w3))) (#1 (v2 v3) (let w4 (f v3) (+ v2 w4))))))", false},
		{"(fn f (x) (+ (match x (#0 () 1) (#1 (a) (f 2))) 3))", "(fn f (v1) (let w1 (match v1 (#0 () 1) (#1 (v2) (let w2 2 (f w2)))) (let w3 3 (+ w1 w3))))", false},
		{"(fn f (x) (match x (#1 (a) (match a (#1 (b) (#1 b)) (#0 () (#1 0))))))", "(fn f (v1) (match v1 (#1 (v2) (match v2 (#1 (v3) (#1 v3)) (#0 () (let w1 0 (#1 w1)))))))", false},
		// names that are called as the new ones, or as a function
		{"(fn f (w1 w2) (+ w1 (* w2 1)))", "(fn f (v1 v2) (let w1 (let w2 1 (* v2 w2)) (+ v1 w1)))", false},
		{"(fn w1 (w1) (let w1 (w1 w1) (w1 5)))", "(fn w1 (v1) (let v2 (w1 v1) (let w1 5 (w1 w1))))", false},
	}
}

func TestEachArgumentHasAName(t *testing.T) {
	for _, r := range rows() {
		f := program(t, r.given)[0]
		got := Fn(f)
		if s := text.Print([]api.Fn{got}); s != r.want+"\n" {
			t.Errorf("%s: %s comes, not %s", r.given, s, r.want)
		}
		// Texts do not show the fields that a kind has not: they must be zero.
		if !scope.Same(got.Body, program(t, r.want)[0].Body) {
			t.Errorf("%s: %#v comes", r.given, got.Body)
		}
		if Is(f.Body) != r.was || !Is(got.Body) {
			t.Errorf("%s: plain before and then: %v, %v", r.given, Is(f.Body), Is(got.Body))
		}
	}
}

func TestPlainOnesKeepAsTheyAre(t *testing.T) {
	for _, r := range rows() {
		f := program(t, r.given)[0]
		once := Fn(f)
		if twice := Fn(once); !names.Alike(once, twice) {
			t.Errorf("%s: it is plain, and %s comes", r.want, text.Term(twice.Body))
		}
		if r.was && !reflect.DeepEqual(once, names.Fn(f)) {
			t.Errorf("%s: it is plain, and %s comes", r.given, text.Term(once.Body))
		}
	}
}

func TestPlainFunctionsAreRight(t *testing.T) {
	for _, r := range rows() {
		if err := scope.Check(All(program(t, r.given)), text.Name); err != api.OK {
			t.Errorf("%s: %d comes", r.want, err)
		}
	}
}

func TestAllNumbersEachFunctionByItself(t *testing.T) {
	got := text.Print(All(program(t, "(fn f (x) (g x 1)) (fn g (a b) (let c 2 (#1 (h)))) (fn h () (f 3))")))
	want := "(fn f (v1) (let w1 1 (g v1 w1)))\n(fn g (v1 v2) (let v3 2 (let w1 (h) (#1 w1))))\n(fn h () (let w1 3 (f w1)))\n"
	if got != want {
		t.Errorf("%s comes, not %s", got, want)
	}
	for _, l := range [][]api.Fn{nil, {}} {
		if got := All(l); len(got) != 0 {
			t.Errorf("%v comes of nothing", got)
		}
	}
}

func TestMuchWithin(t *testing.T) {
	const deep = api.MaxDeep
	given := strings.Repeat("(f ", deep) + "x" + strings.Repeat(")", deep)
	// Each is named ahead of those within it, and stands in the next outer one's let.
	want := "(f v1)"
	for i := deep - 1; i > 0; i-- {
		w := "w" + strconv.Itoa(i)
		want = "(let " + w + " " + want + " (f " + w + "))"
	}
	if got := text.Print(All(program(t, "(fn f (x) "+given+")"))); got != "(fn f (v1) "+want+")\n" {
		t.Errorf("%s comes, not %s", got, want)
	}
}

func TestLargeBodies(t *testing.T) {
	six := of(api.TmCon)
	for range api.MaxVars {
		six.Args = append(six.Args, of(api.TmInt))
	}
	body := of(api.TmInt)
	for range api.MaxDeep - 1 {
		body = of(api.TmCon, six, six, body)
	}
	f := api.Fn{Name: "f", Body: body}
	if err := scope.Check([]api.Fn{f}, text.Name); err != api.OK {
		t.Fatalf("it is not right: %d", err)
	}
	got := Fn(f)
	// Nothing within is a name: each term but the outermost has a let of its own, and its name where it stood.
	n := scope.Size(body) - 1
	if size := scope.Size(got.Body); size != 3*n+1 || !Is(got.Body) {
		t.Errorf("%d terms come of %d", size, n+1)
	}
	if s := text.Term(got.Body); !strings.Contains(s, "(let w"+strconv.Itoa(n)+" ") {
		t.Errorf("the last name should be w%d", n)
	}
}

// running are programs whose f takes two numbers: with answers, and with errors of all the kinds that a run has.
func running() []string {
	return []string{
		"(fn f (x y) (#1 (+ (* x 2) y) (- x (* y y)) (< x y) (= x x)))",
		"(fn f (x y) (match (up x (#0)) (#0 () (#0)) (#1 (a r) (#2 (+ a y) (sum r))))) (fn up (n l) (match (= n 0) (#1 () l) (#0 () (up (- n 1) (#1 n l))))) (fn sum (l) (match l (#0 () 0) (#1 (x r) (+ x (sum r)))))",
		"(fn f (x y) (let x (let y (+ x 1) (* y y)) (match (#1 x (- y 1)) (#1 (a x) (#3 a x y (+ a (+ x y)))))))",
		"(fn f (x y) (match (< x (+ y 1)) (#1 () (match (= x y) (#1 () 10) (#0 () (+ x 20)))) (#0 () (#4 (f y x)))))",
		"(fn f (x y) (+ (match x (#0 () 1)) (f x y)))",
		"(fn f (x y) (+ (f x y) (match x (#0 () 1))))",
		"(fn f (x y) (match (#2 (+ x 1)) (#1 () 1) (#2 () 2)))",
		"(fn f (x y) (match (< x y) (#1 () (+ (#0) 1)) (#0 () (f (- x 1) (+ y 1)))))",
		"(fn f (x y) (g (#1 x y) 12)) (fn g (t n) (match (< n 1) (#1 () t) (#0 () (g (#1 t t) (- n 1)))))",
	}
}

func TestPlainOrNotItIsTheSame(t *testing.T) {
	seen := map[api.Errno]int{}
	for _, s := range running() {
		l := program(t, s)
		for _, args := range [][]int{{0, 0}, {3, 4}, {7, -2}, {30, 1}, {50, 0}, {1 << 31, 5}, {1}, nil} {
			for _, fuel := range []int{-1, 0, 1, 7, 50, api.MaxFuel} {
				v, err := eval.Run(l, "f", args, fuel)
				w, errw := eval.Run(All(l), "f", args, fuel)
				if err != errw || !eval.Same(v, w) {
					t.Errorf("%s of %d: %v, %d comes, and plain %v, %d", s, args, v, err, w, errw)
				}
				seen[err]++
			}
		}
	}
	for _, err := range []api.Errno{api.OK, api.ErrRange, api.ErrNone, api.ErrFuel, api.ErrDeep, api.ErrType, api.ErrCase, api.ErrMuch} {
		if seen[err] == 0 {
			t.Errorf("no run answers %d", err)
		}
	}
}

func variable(name string) api.Term { return api.Term{Kind: api.TmVar, Name: name} }

func of(kind int, args ...api.Term) api.Term {
	return api.Term{Kind: kind, N: 1, Name: "n", Args: args}
}

func TestIsLooksAtAllArguments(t *testing.T) {
	x, bad := variable("x"), of(api.TmCon, of(api.TmInt))
	inCase := func(b api.Term) api.Term {
		m := of(api.TmMatch, x)
		m.Cases = []api.Case{{Tag: 0, Body: x}, {Tag: 1, Body: b}}
		return m
	}
	for _, kind := range []int{api.TmCon, api.TmCall, api.TmPrim, api.TmMatch} {
		if !Is(of(kind)) || !Is(of(kind, x)) || !Is(of(kind, x, x)) {
			t.Errorf("kind %d: names alone are plain", kind)
		}
		for _, a := range []api.Term{of(api.TmInt), of(api.TmCon), of(api.TmLet, x, x), of(api.TmPrim, x, x), {}} {
			if Is(of(kind, a)) || Is(of(kind, a, x)) || Is(of(kind, x, a)) {
				t.Errorf("kind %d: %#v is no name", kind, a)
			}
		}
	}
	for _, b := range []api.Term{
		of(api.TmLet, bad, x), of(api.TmLet, x, bad), of(api.TmLet, of(api.TmLet, x, bad), x), of(api.TmLet, x, of(api.TmLet, bad, x)),
		inCase(bad), inCase(inCase(bad)), inCase(of(api.TmLet, x, bad)), of(api.TmLet, inCase(bad), x),
	} {
		if Is(b) {
			t.Errorf("%s is not plain", text.Term(b))
		}
	}
	for _, g := range []api.Term{x, of(api.TmInt), of(api.TmLet, of(api.TmInt), of(api.TmCon)), inCase(of(api.TmInt)), inCase(inCase(of(api.TmCon, x)))} {
		if !Is(g) {
			t.Errorf("%s is plain", text.Term(g))
		}
	}
}

func TestIsLeavesWhatMeansNothing(t *testing.T) {
	bad := of(api.TmCon, of(api.TmInt))
	for _, kind := range []int{-1, 0, api.TmVar, api.TmInt, api.TmDup, api.TmDrop, api.TmTake, api.TmHold, api.TmUse, api.TmFree, 14} {
		if !Is(of(kind, bad)) {
			t.Errorf("kind %d has no arguments here", kind)
		}
	}
	for _, kind := range []int{api.TmVar, api.TmInt, api.TmCon, api.TmCall, api.TmPrim, api.TmLet} {
		b := of(kind)
		b.Cases = []api.Case{{Body: bad}}
		if !Is(b) {
			t.Errorf("kind %d has no cases", kind)
		}
	}
}

// everything has a term of each kind that a right program may have, and arguments that are no names.
const everything = "(fn f (x y) (let z (+ x 1) (match (f y 2) (#1 (a b) (#2 a (f z 3))) (#0 () 7))))"

// litter writes something into all fields of terms in t that their kinds have not.
func litter(t api.Term) api.Term {
	t.Token, t.Vars = "litter", []string{"litter"}
	switch t.Kind {
	case api.TmVar, api.TmCall, api.TmLet:
		t.N = 77
	case api.TmInt, api.TmCon, api.TmPrim:
		t.Name = "litter"
	default:
		t.N, t.Name = 77, "litter"
	}
	for i, a := range t.Args {
		t.Args[i] = litter(a)
	}
	for i, c := range t.Cases {
		t.Cases[i].Body = litter(c.Body)
	}
	return t
}

func TestFieldsThatMeanNothingAreNotToldOn(t *testing.T) {
	f, g := program(t, everything)[0], program(t, everything)[0]
	g.Body = litter(g.Body)
	if !scope.Same(Fn(g).Body, Fn(f).Body) {
		t.Errorf("%#v comes, not %#v", Fn(g), Fn(f))
	}
}

// spare gives each list in t room behind it, with litter there.
func spare(t api.Term) api.Term {
	args := make([]api.Term, 0, len(t.Args)+1)
	for _, a := range t.Args {
		args = append(args, spare(a))
	}
	cases := make([]api.Case, 0, len(t.Cases)+1)
	for _, c := range t.Cases {
		cases = append(cases, api.Case{Tag: c.Tag, Vars: append(c.Vars, "spare")[:len(c.Vars)], Body: spare(c.Body)})
	}
	t.Args = append(args, variable("spare"))[:len(args)]
	t.Cases = append(cases, api.Case{Tag: 9})[:len(cases)]
	return t
}

// roomy is everything, with spare room behind all of its lists.
func roomy(t *testing.T) api.Fn {
	f := program(t, everything)[0]
	f.Params = append(f.Params, "spare")[:len(f.Params)]
	f.Body = spare(f.Body)
	return f
}

// told is t with the spare room of its lists told, too.
func told(t api.Term) api.Term {
	var args []api.Term
	for _, a := range t.Args[:cap(t.Args)] {
		args = append(args, told(a))
	}
	var cases []api.Case
	for _, c := range t.Cases[:cap(t.Cases)] {
		cases = append(cases, api.Case{Tag: c.Tag, Vars: c.Vars[:cap(c.Vars)], Body: told(c.Body)})
	}
	t.Args, t.Cases = args, cases
	return t
}

func sameRoom(a, b api.Fn) bool {
	return reflect.DeepEqual(a.Params[:cap(a.Params)], b.Params[:cap(b.Params)]) && reflect.DeepEqual(told(a.Body), told(b.Body))
}

// spoil writes over all that t can reach, spare room too.
func spoil(t *api.Term) {
	for i := range t.Args[:cap(t.Args)] {
		spoil(&t.Args[:cap(t.Args)][i])
	}
	for i := range t.Cases[:cap(t.Cases)] {
		c := &t.Cases[:cap(t.Cases)][i]
		spoilNames(c.Vars)
		spoil(&c.Body)
		c.Tag = -1
	}
	t.Kind, t.N, t.Name = -1, -1, "spoilt"
}

func spoilNames(l []string) {
	for i := range l[:cap(l)] {
		l[:cap(l)][i] = "spoilt"
	}
}

func TestWhatIsHandedInIsOnlyRead(t *testing.T) {
	given := roomy(t)
	got := All([]api.Fn{given})
	want := text.Print(got)
	Is(given.Body)
	if !sameRoom(given, roomy(t)) {
		t.Errorf("%#v is left", given)
	}
	spoilNames(given.Params)
	spoil(&given.Body)
	if text.Print(got) != want {
		t.Errorf("%s is left of it", text.Print(got))
	}
	again := roomy(t)
	made := Fn(again)
	spoilNames(made.Params)
	spoil(&made.Body)
	if !sameRoom(again, roomy(t)) {
		t.Errorf("%#v is left", again)
	}
}

// lists calls met with where each list that t can reach begins.
func lists(t *api.Term, met func(first any)) {
	args, cases := t.Args[:cap(t.Args)], t.Cases[:cap(t.Cases)]
	if len(args) > 0 {
		met(&args[0])
	}
	for i := range args {
		lists(&args[i], met)
	}
	if len(cases) > 0 {
		met(&cases[0])
	}
	for i := range cases {
		if vars := cases[i].Vars[:cap(cases[i].Vars)]; len(vars) > 0 {
			met(&vars[0])
		}
		lists(&cases[i].Body, met)
	}
}

func TestNoListsOfAnAnswerShare(t *testing.T) {
	f := program(t, everything)[0]
	f.Body = of(api.TmPrim, f.Body, f.Body)
	got := All([]api.Fn{f, f})
	seen := map[any]int{}
	for i := range got {
		lists(&got[i].Body, func(first any) {
			if seen[first]++; seen[first] > 1 {
				t.Errorf("a list stands at two places of %s", text.Print(got))
			}
		})
	}
	if &got[0].Params[0] == &got[1].Params[0] || len(seen) == 0 {
		t.Error("the parameters stand at two places, or nothing is told")
	}
}

func TestAnswersHangOnArgumentsAlone(t *testing.T) {
	f := program(t, everything)[0]
	first := Fn(f)
	for range 3 {
		All([]api.Fn{f, f})
		if again := Fn(f); !reflect.DeepEqual(first, again) {
			t.Errorf("%s comes, and then %s", text.Term(first.Body), text.Term(again.Body))
		}
	}
}

func TestFunctionsOfNoRightProgram(t *testing.T) {
	x := variable("x")
	for _, b := range []api.Term{
		{}, of(-1), of(99, x), x, of(api.TmLet), of(api.TmLet, x), of(api.TmLet, x, x, x), of(api.TmPrim), of(api.TmPrim, of(99)),
		of(api.TmMatch), {Kind: api.TmMatch, Cases: []api.Case{{Vars: []string{"a", "a"}, Body: x}}}, of(api.TmDup, x), of(api.TmUse, x),
	} {
		if got := Fn(api.Fn{Name: "f", Params: []string{"p", "p"}, Body: b}); got.Name != "f" || !Is(got.Body) {
			t.Errorf("%#v: %#v comes", b, got)
		}
	}
	if got := Fn(api.Fn{}); got.Name != "" || len(got.Params) != 0 || !scope.Same(got.Body, api.Term{}) {
		t.Errorf("%#v comes", got)
	}
}
