package reuse

import (
	"math"
	"slices"
	"strconv"
	"testing"

	"exactchange/api"
	"exactchange/linear"
	"exactchange/own"
	"exactchange/scope"
	"exactchange/text"
)

// row is a function, and what must be written of its body when rooms are used again.
type row struct{ given, want string }

func rows() []row {
	return []row{
		{"(fn f () 1)", "1"},
		{"(fn f (x) x)", "v1"},
		{"(fn f (x) (#1 x))", "(#1 v1)"},
		{"(fn f (x y) (+ x 1))", "(drop v2 (let w1 1 (+ v1 w1)))"},
		// as large, whatever constructor it is; smaller; larger
		{"(fn f (x) (match x (#1 (a b) (#2 b a))))", "(match v1 (#1 (v2 v3) (hold v1 k1 (v2 v3) (use k1 #2 v3 v2))))"},
		{"(fn f (x) (match x (#1 (a) (#1 a))))", "(match v1 (#1 (v2) (hold v1 k1 (v2) (use k1 #1 v2))))"},
		{"(fn f (x) (match x (#1 (a b) (#2 b))))", "(match v1 (#1 (v2 v3) (take v1 (v2 v3) (drop v2 (#2 v3)))))"},
		{"(fn f (x) (match x (#1 (a b) (#0))))", "(match v1 (#1 (v2 v3) (take v1 (v2 v3) (drop v2 (drop v3 (#0))))))"},
		{"(fn f (x) (match x (#1 (a b) (#2 b a b))))", "(match v1 (#1 (v2 v3) (take v1 (v2 v3) (dup v3 (#2 v3 v2 v3)))))"},
		// nothing is made
		{"(fn f (x) (match x (#1 (a b) (f a))))", "(match v1 (#1 (v2 v3) (take v1 (v2 v3) (drop v3 (f v2)))))"},
		{"(fn f (x) (match x (#1 (a b) (+ a b))))", "(match v1 (#1 (v2 v3) (take v1 (v2 v3) (+ v2 v3))))"},
		{"(fn f (x) (match x (#1 (a) a)))", "(match v1 (#1 (v2) (take v1 (v2) v2)))"},
		{"(fn f (x) (match x (#1 (a) 5)))", "(match v1 (#1 (v2) (take v1 (v2) (drop v2 5))))"},
		// it is not taken
		{"(fn f (x) (match x (#0 () (#0))))", "(match v1 (#0 () (drop v1 (#0))))"},
		{"(fn f (x) (match x (#1 (a) (#2 x))))", "(match v1 (#1 (v2) (#2 v1)))"},
		{"(fn f (x) (match x (#1 (a b) (#2 x a))))", "(match v1 (#1 (v2 v3) (dup v2 (#2 v1 v2))))"},
		// behind what counts
		{"(fn f (x) (match x (#1 (a b) (#2 a a))))", "(match v1 (#1 (v2 v3) (hold v1 k1 (v2 v3) (drop v3 (dup v2 (use k1 #2 v2 v2))))))"},
		// in lets
		{"(fn f (x) (match x (#1 (a) (f (#1 a)))))", "(match v1 (#1 (v2) (hold v1 k1 (v2) (let w1 (use k1 #1 v2) (f w1)))))"},
		{"(fn f (x) (match x (#1 (a b) (#2 (f b) a))))", "(match v1 (#1 (v2 v3) (hold v1 k1 (v2 v3) (let w1 (f v3) (use k1 #2 w1 v2)))))"},
		{"(fn f (x) (match x (#1 (a b) (#2 (#3 a a) b))))", "(match v1 (#1 (v2 v3) (hold v1 k1 (v2 v3) (let w1 (dup v2 (#3 v2 v2)) (use k1 #2 w1 v3)))))"},
		{"(fn f (x) (match x (#1 (a b) (#2 (#3 a b)))))", "(match v1 (#1 (v2 v3) (hold v1 k1 (v2 v3) (let w1 (use k1 #3 v2 v3) (#2 w1)))))"},
		{"(fn f (x) (match x (#1 (a b) (#2 (#3 a b) 4))))", "(match v1 (#1 (v2 v3) (hold v1 k1 (v2 v3) (let w1 (use k1 #3 v2 v3) (let w2 4 (#2 w1 w2))))))"},
		{"(fn f (x) (match x (#1 (a) (let y (let z (#2 a) z) 5))))", "(match v1 (#1 (v2) (take v1 (v2) (let v4 (let v3 (#2 v2) v3) (drop v4 5)))))"},
		{"(fn f (l) (match l (#0 () (#0)) (#1 (x r) (#1 (+ x 1) (f r)))))", "(match v1 (#0 () (drop v1 (#0))) (#1 (v2 v3) (hold v1 k1 (v2 v3) (let w1 (let w2 1 (+ v2 w2)) (let w3 (f v3) (use k1 #1 w1 w3))))))"},
		{"(fn f (l a) (match l (#0 () a) (#1 (x r) (f r (#1 x a)))))", "(match v1 (#0 () (drop v1 v2)) (#1 (v3 v4) (hold v1 k1 (v3 v4) (let w1 (use k1 #1 v3 v2) (f v4 w1)))))"},
		// in matches: a case without place gives it back
		{"(fn f (x y) (match x (#1 (a) (match y (#1 () (#2 a)) (#0 () a)))))", "(match v1 (#1 (v3) (hold v1 k1 (v3) (match v2 (#1 () (drop v2 (use k1 #2 v3))) (#0 () (free k1 (drop v2 v3)))))))"},
		{"(fn f (x y) (match x (#1 (a) (match y (#1 () (#2 a)) (#0 () (#3 a))))))", "(match v1 (#1 (v3) (hold v1 k1 (v3) (match v2 (#1 () (drop v2 (use k1 #2 v3))) (#0 () (drop v2 (use k1 #3 v3)))))))"},
		{"(fn f (x y) (match x (#1 (a) (match y (#1 () (#2 a a)) (#0 () a)))))", "(match v1 (#1 (v3) (take v1 (v3) (match v2 (#1 () (drop v2 (dup v3 (#2 v3 v3)))) (#0 () (drop v2 v3))))))"},
		// the outer one comes first, and the inner one has what is left
		{"(fn f (x) (match x (#1 (a b) (match a (#1 (c d) (#2 b c))))))", "(match v1 (#1 (v2 v3) (hold v1 k1 (v2 v3) (match v2 (#1 (v4 v5) (take v2 (v4 v5) (drop v5 (use k1 #2 v3 v4))))))))"},
		{"(fn f (x) (match x (#1 (a b) (match a (#1 (c d) (#2 (#3 b c) d))))))", "(match v1 (#1 (v2 v3) (hold v1 k1 (v2 v3) (match v2 (#1 (v4 v5) (hold v2 k2 (v4 v5) (let w1 (use k1 #3 v3 v4) (use k2 #2 w1 v5))))))))"},
		{"(fn f (x) (match x (#1 (a b) (match a (#1 (c) (#2 (#3 b) c))))))", "(match v1 (#1 (v2 v3) (hold v1 k1 (v2 v3) (match v2 (#1 (v4) (hold v2 k2 (v4) (let w1 (use k2 #3 v3) (use k1 #2 w1 v4))))))))"},
		// only those that keep their room are numbered, arguments ahead of cases
		{"(fn f (x) (match x (#1 (a) a) (#2 (a b) (#2 b a)) (#3 (a b c) a) (#4 (a) (#4 a))))", "(match v1 (#1 (v2) (take v1 (v2) v2)) (#2 (v3 v4) (hold v1 k1 (v3 v4) (use k1 #2 v4 v3))) (#3 (v5 v6 v7) (take v1 (v5 v6 v7) (drop v6 (drop v7 v5)))) (#4 (v8) (hold v1 k2 (v8) (use k2 #4 v8))))"},
		{"(fn f (x y) (match (match x (#1 (a) (#2 a))) (#1 (a b) (#2 y)) (#2 (a) (#2 a y))))", "(let w1 (match v1 (#1 (v3) (hold v1 k1 (v3) (use k1 #2 v3)))) (match w1 (#1 (v4 v5) (take w1 (v4 v5) (drop v4 (drop v5 (#2 v2))))) (#2 (v6) (take w1 (v6) (#2 v6 v2)))))"},
		{"(fn f (x y) (#1 (match x (#1 (a) (#2 a))) (match y (#1 (a) (#3 a)))))", "(let w1 (match v1 (#1 (v3) (hold v1 k1 (v3) (use k1 #2 v3)))) (let w2 (match v2 (#1 (v4) (hold v2 k2 (v4) (use k2 #3 v4)))) (#1 w1 w2)))"},
	}
}

func TestFunctionsThatTake(t *testing.T) {
	for _, r := range rows() {
		f := fused(t, r.given)[0]
		got := Fn(f)
		if s := text.Term(got.Body); s != r.want {
			t.Errorf("%s: %s comes, not %s", r.given, s, r.want)
		}
		if got.Name != f.Name || !slices.Equal(got.Params, f.Params) {
			t.Errorf("%s: %s of %q comes", r.given, got.Name, got.Params)
		}
		if err := linear.Check(got); err != api.OK {
			t.Errorf("%s: %s comes, with which %d is wrong", r.given, text.Term(got.Body), err)
		}
		if !scope.Same(own.Erase(got.Body), own.Erase(f.Body)) {
			t.Errorf("%s: %s comes, that is another one", r.given, text.Term(got.Body))
		}
		stays(t, got.Body)
	}
}

// becomes holds what Fn has of a body as it is written against what must come of it.
func becomes(t *testing.T, given, want string) {
	t.Helper()
	comes(t, body(t, given), body(t, want))
}

func TestWhatHasPlace(t *testing.T) {
	for _, r := range []row{
		{"(take x (a b) (#3 b a))", "(hold x k1 (a b) (use k1 (#3 b a)))"},
		{"(take x (a) (#0 a))", "(hold x k1 (a) (use k1 (#0 a)))"},
		{"(take x (a b c d e g) (#9 a b c d e g))", "(hold x k1 (a b c d e g) (use k1 (#9 a b c d e g)))"},
		// what counts, of any size
		{"(take x (a b) (dup a (#3 b a)))", "(hold x k1 (a b) (dup a (use k1 (#3 b a))))"},
		{"(take x (a b) (drop a (#3 b y)))", "(hold x k1 (a b) (drop a (use k1 (#3 b y))))"},
		{"(take x (a b) (take y (c) (#3 a c)))", "(hold x k1 (a b) (take y (c) (use k1 (#3 a c))))"},
		{"(take x (a b) (hold y t (c) (#3 a c)))", "(hold x k1 (a b) (hold y t (c) (use k1 (#3 a c))))"},
		{"(take x (a b) (free t (#3 a b)))", "(hold x k1 (a b) (free t (use k1 (#3 a b))))"},
		{"(take x (a b) (dup a (dup a (drop b (free t (#3 a a))))))", "(hold x k1 (a b) (dup a (dup a (drop b (free t (use k1 (#3 a a)))))))"},
		// lets: a first term that is one; the second one else
		{"(take x (a b) (let y (#3 a b) y))", "(hold x k1 (a b) (let y (use k1 (#3 a b)) y))"},
		{"(take x (a b) (let y (#3 a b) (#4 y z)))", "(hold x k1 (a b) (let y (use k1 (#3 a b)) (#4 y z)))"},
		{"(take x (a b) (let y (#3 a) (#4 y b)))", "(hold x k1 (a b) (let y (#3 a) (use k1 (#4 y b))))"},
		{"(take x (a b) (let y (dup a (#3 a b)) (#4 y a)))", "(hold x k1 (a b) (let y (dup a (#3 a b)) (use k1 (#4 y a))))"},
		{"(take x (a b) (let y 5 (let z (#3 a b) (#4 y z))))", "(hold x k1 (a b) (let y 5 (let z (use k1 (#3 a b)) (#4 y z))))"},
		{"(take x (a b) (let y (use t (#3 a b)) (#4 y z)))", "(hold x k1 (a b) (let y (use t (#3 a b)) (use k1 (#4 y z))))"},
		// matches
		{"(take x (a b) (match a (#1 () (#3 b a))))", "(hold x k1 (a b) (match a (#1 () (use k1 (#3 b a)))))"},
		{"(take x (a b) (match a (#1 (c) 5) (#2 () (drop a (#3 b b)))))", "(hold x k1 (a b) (match a (#1 (c) (free k1 5)) (#2 () (drop a (use k1 (#3 b b))))))"},
		{"(take x (a b) (let y 5 (dup a (match y (#1 () (#3 a a)) (#2 () (f a)) (#3 () a)))))", "(hold x k1 (a b) (let y 5 (dup a (match y (#1 () (use k1 (#3 a a))) (#2 () (free k1 (f a))) (#3 () (free k1 a))))))"},
	} {
		becomes(t, r.given, r.want)
	}
}

func TestCasesHavePlaceWhateverIsMatched(t *testing.T) {
	a, made := vars("a"), con("a")
	for _, args := range [][]api.Term{nil, {whole(5)}, {made}, {{}}, {variable("n"), variable("n")}} {
		given := api.Term{Kind: api.TmMatch, Args: args, Cases: []api.Case{{Tag: 1, Body: made}}}
		want := api.Term{Kind: api.TmMatch, Args: args, Cases: []api.Case{{Tag: 1, Body: use("k1", "a")}}}
		comes(t, take("x", a, given), hold("x", "k1", a, want))
	}
}

func TestWhatHasNoPlace(t *testing.T) {
	ab := vars("a", "b")
	for _, s := range []string{
		"a", "5", "(#1)", "(#1 a)", "(#1 a b a)", "(+ a b)", "(f a b)", "(use t (#1 a b))",
		"(dup a (#1 a))", "(drop a b)", "(take y (c d e) (#1 a))", "(hold y t (c) (#1 a))", "(free t (#1 a))",
		// what is within an argument, or within a let's first term
		"(#1 (#2 a b))", "(f (#2 a b) (#2 a b))", "(+ (#2 a b) (#2 a b))", "(use t (#1 (#2 a b)))",
		"(match (#2 a b) (#1 () 5))",
		"(let y (let z (#2 a b) z) y)", "(let y (let z 5 (#2 a b)) y)", "(let y (dup a (#2 a b)) y)", "(let y (drop c (#2 a b)) y)",
		"(let y (match c (#1 () (#2 a b))) y)", "(let y (free t (#2 a b)) y)", "(let y (f (#2 a b)) y)", "(let y (use t (#2 a b)) y)",
		// no case has it
		"(match a (#1 () a) (#2 (c d) (#1 a)))", "(match a)", "(match a (#1 () (match b (#1 () 5) (#2 () (#3 a)))))",
	} {
		stays(t, take("x", ab, body(t, s)))
	}
	five, made := whole(5), con("a", "b")
	for _, b := range []api.Term{
		{}, of(api.TmMatch, made), of(api.TmMatch, five, made),
		// what has not as many arguments as it must
		of(api.TmLet), of(api.TmLet, made), of(api.TmLet, made, made, made), of(api.TmLet, five, made, made),
		of(api.TmDup), of(api.TmDup, made, five), of(api.TmDrop, made, made, five), of(api.TmTake, five, made, five), of(api.TmHold, made, five), of(api.TmFree, made, five),
		// no such kind, or one that is not named
		of(-1, made), of(0, made), of(14, made), of(math.MinInt, made), of(math.MaxInt, made), of(api.TmVar, made), of(api.TmInt, made), of(api.TmUse, made),
		of(-1, five, five), of(0, five, five), of(14, five, five), of(api.TmVar, five, five), of(api.TmInt, five, five), of(api.TmPrim, five, five),
	} {
		stays(t, take("x", ab, b))
	}
}

func TestOnlyMatchesHaveCases(t *testing.T) {
	for _, kind := range []int{math.MinInt, -1, 0, api.TmVar, api.TmInt, api.TmCon, api.TmCall, api.TmPrim, api.TmLet, api.TmDup, api.TmDrop, api.TmTake, api.TmHold, api.TmUse, api.TmFree, 14, math.MaxInt} {
		b := of(kind, variable("x"))
		b.Cases = []api.Case{{Tag: 1, Body: con("a", "b")}}
		stays(t, take("x", vars("a", "b"), b))
	}
}

func TestCasesWithoutPlaceGiveItBack(t *testing.T) {
	ab, two := vars("a", "b"), con("a", "b")
	given := match("a",
		api.Case{Tag: 7, Vars: vars("c"), Body: whole(5)},
		api.Case{Tag: 0, Body: two},
		// none within has place: it goes back ahead of the inner match
		api.Case{Tag: 2, Body: match("b", api.Case{Tag: 1, Body: whole(6)}, api.Case{Tag: 2, Body: con("a")})},
		// one within has
		api.Case{Tag: 1, Body: match("b", api.Case{Tag: 1, Body: whole(7)}, api.Case{Tag: 2, Body: two})},
		api.Case{Tag: 3, Vars: ab, Body: api.Term{}},
		api.Case{Tag: 4, Body: free("t", two)},
	)
	want := match("a",
		api.Case{Tag: 7, Vars: vars("c"), Body: free("k1", whole(5))},
		api.Case{Tag: 0, Body: use("k1", "a", "b")},
		api.Case{Tag: 2, Body: free("k1", match("b", api.Case{Tag: 1, Body: whole(6)}, api.Case{Tag: 2, Body: con("a")}))},
		api.Case{Tag: 1, Body: match("b", api.Case{Tag: 1, Body: free("k1", whole(7))}, api.Case{Tag: 2, Body: use("k1", "a", "b")})},
		api.Case{Tag: 3, Vars: ab, Body: free("k1", api.Term{})},
		api.Case{Tag: 4, Body: free("t", use("k1", "a", "b"))},
	)
	comes(t, take("x", ab, given), hold("x", "k1", ab, want))
	stays(t, given)
	// two of them: the later one is outermost
	comes(t,
		take("x", ab, take("y", ab, match("a", api.Case{Tag: 1, Body: whole(5)}, api.Case{Tag: 2, Body: of(api.TmLet, two, two)}))),
		hold("x", "k1", ab, hold("y", "k2", ab, match("a", api.Case{Tag: 1, Body: free("k2", free("k1", whole(5)))}, api.Case{Tag: 2, Body: of(api.TmLet, use("k1", "a", "b"), use("k2", "a", "b"))}))))
	// one case has place for the outer one alone, the other one for both
	becomes(t,
		"(take x (a b) (take y (c d) (match a (#1 () (#2 c d)) (#2 () (let z (#3 a b) (#4 z z))))))",
		"(hold x k1 (a b) (hold y k2 (c d) (match a (#1 () (free k2 (use k1 (#2 c d)))) (#2 () (let z (use k1 (#3 a b)) (use k2 (#4 z z)))))))")
}

func TestWhatIsNoTakeOfOneArgument(t *testing.T) {
	a, made := vars("a"), con("a")
	stays(t, take("x", a))
	stays(t, take("x", a, made, made))
	stays(t, take("x", a, whole(5), made))
	for _, kind := range []int{math.MinInt, -1, 0, api.TmVar, api.TmInt, api.TmCon, api.TmCall, api.TmPrim, api.TmMatch, api.TmDup, api.TmDrop, api.TmHold, api.TmUse, api.TmFree, 14, math.MaxInt} {
		b := of(kind, made)
		b.Vars = a
		stays(t, b)
	}
	// what is within it is one
	comes(t, take("x", a, take("y", a, made), take("z", a, made)), take("x", a, hold("y", "k1", a, use("k1", "a")), hold("z", "k2", a, use("k2", "a"))))
}

func TestRoomsOfNothing(t *testing.T) {
	comes(t, take("x", nil, con()), hold("x", "k1", nil, use("k1")))
	comes(t, take("x", []string{}, of(api.TmDup, con())), hold("x", "k1", nil, of(api.TmDup, use("k1"))))
	stays(t, take("x", nil, con("a")))
	stays(t, take("x", vars("a"), con()))
	stays(t, take("x", nil, api.Term{Kind: api.TmVar, Name: "a"}))
}

func TestOuterOnesFirst(t *testing.T) {
	for _, r := range []row{
		{"(take x (a b) (take y (c d) (#1 a c)))", "(hold x k1 (a b) (take y (c d) (use k1 (#1 a c))))"},
		{"(take x (a) (take y (c d) (#1 a c)))", "(take x (a) (hold y k1 (c d) (use k1 (#1 a c))))"},
		{"(take x (a b) (take y (c d) (let z (#1 a c) (#2 z b))))", "(hold x k1 (a b) (hold y k2 (c d) (let z (use k1 (#1 a c)) (use k2 (#2 z b)))))"},
		{"(take x (a b) (take y (c) (let z (#1 a) (#2 z b))))", "(hold x k1 (a b) (hold y k2 (c) (let z (use k2 (#1 a)) (use k1 (#2 z b)))))"},
		{"(take x (a b) (take y (c d) (take z (e g) (let u (#1 a c) (#2 u b)))))", "(hold x k1 (a b) (hold y k2 (c d) (take z (e g) (let u (use k1 (#1 a c)) (use k2 (#2 u b))))))"},
		// one case has what the other one's take would have liked
		{"(take x (a) (match y (#1 (c) (take y (c) (#1 c))) (#2 (d) (take y (d) (#1 (#2 d))))))", "(hold x k1 (a) (match y (#1 (c) (take y (c) (use k1 (#1 c)))) (#2 (d) (take y (d) (use k1 (#1 (#2 d)))))))"},
		{"(take x (a) (match y (#1 (c) (take y (c) (let z (#1 c) (#1 z)))) (#2 (d) (take y (d) 5))))", "(hold x k1 (a) (match y (#1 (c) (hold y k2 (c) (let z (use k1 (#1 c)) (use k2 (#1 z))))) (#2 (d) (free k1 (take y (d) 5)))))"},
	} {
		becomes(t, r.given, r.want)
	}
}

func TestAllWithin(t *testing.T) {
	a := vars("a")
	given, kept := take("x", a, con("a")), func(k string) api.Term { return hold("x", k, a, use(k, "a")) }
	for _, kind := range []int{api.TmCon, api.TmCall, api.TmPrim, api.TmLet, api.TmMatch, api.TmDup, api.TmDrop, api.TmHold, api.TmUse, api.TmFree} {
		comes(t, of(kind, given), of(kind, kept("k1")))
		g, w := of(kind, given, given, given), of(kind, kept("k1"), kept("k2"), kept("k3"))
		g.Cases = []api.Case{{Tag: 1, Vars: a, Body: given}, {Tag: 2, Body: of(api.TmDup, given)}}
		w.Cases = []api.Case{{Tag: 1, Vars: a, Body: kept("k4")}, {Tag: 2, Body: of(api.TmDup, kept("k5"))}}
		comes(t, g, w)
	}
	becomes(t,
		"(let y (take x (a) (let z (take u (c) (#1 c)) (#1 z))) (match y (#1 (d) (take y (d) (#2 d)))))",
		"(let y (hold x k1 (a) (let z (hold u k2 (c) (use k2 (#1 c))) (use k1 (#1 z)))) (match y (#1 (d) (hold y k3 (d) (use k3 (#2 d))))))")
	// in a body that gives a room back, too
	becomes(t,
		"(take x (a b) (match y (#1 (c) (take y (c) (#1 c))) (#2 () (#2 a b)) (#3 (d) (take y (d) (#3 d)))))",
		"(hold x k1 (a b) (match y (#1 (c) (free k1 (hold y k2 (c) (use k2 (#1 c))))) (#2 () (use k1 (#2 a b))) (#3 (d) (free k1 (hold y k3 (d) (use k3 (#3 d)))))))")
}

func TestManyTokens(t *testing.T) {
	given, want := whole(5), whole(5)
	for i := 12; i > 0; i-- {
		a, k := vars("a"), "k"+strconv.Itoa(i)
		given = of(api.TmLet, take("x", a, con("a")), of(api.TmLet, take("x", a, whole(i)), given))
		want = of(api.TmLet, hold("x", k, a, use(k, "a")), of(api.TmLet, take("x", a, whole(i)), want))
	}
	comes(t, given, want)
}

func TestTokensAndPlacesKeepTheirFields(t *testing.T) {
	got := Fn(fused(t, "(fn f (x) (match x (#1 (a b) (match a (#2 (c) (#7 c b)) (#0 () b)))))")[0]).Body
	taken := take("v2", vars("v4"), api.Term{Kind: api.TmUse, N: 7, Token: "k1", Args: []api.Term{variable("v4"), variable("v3")}})
	given := free("k1", api.Term{Kind: api.TmDrop, Name: "v2", Args: []api.Term{variable("v3")}})
	inner := match("v2", api.Case{Tag: 2, Vars: vars("v4"), Body: taken}, api.Case{Tag: 0, Body: given})
	want := match("v1", api.Case{Tag: 1, Vars: vars("v2", "v3"), Body: hold("v1", "k1", vars("v2", "v3"), inner)})
	if !scope.Same(got, want) {
		t.Errorf("%#v comes, not %#v", got, want)
	}
}

func TestAll(t *testing.T) {
	for _, l := range [][]api.Fn{nil, {}} {
		if got := All(l); len(got) != 0 {
			t.Errorf("%v comes of nothing", got)
		}
	}
	l := fused(t, "(fn f (x) (match x (#1 (a) (#2 a)))) (fn g (x y) (match y (#1 (a b) x))) (fn h (x) (match x (#1 (a b) (#1 (#2 b) a)))) (fn i () 5)")
	want := "(fn f (v1) (match v1 (#1 (v2) (hold v1 k1 (v2) (use k1 #2 v2)))))\n" +
		"(fn g (v1 v2) (match v2 (#1 (v3 v4) (take v2 (v3 v4) (drop v3 (drop v4 v1))))))\n" +
		"(fn h (v1) (match v1 (#1 (v2 v3) (hold v1 k1 (v2 v3) (let w1 (#2 v3) (use k1 #1 w1 v2))))))\n" +
		"(fn i () 5)\n"
	got := All(l)
	if s := text.Print(got); s != want {
		t.Errorf("%s comes, not %s", s, want)
	}
	for i, f := range l {
		if one := Fn(f); one.Name != got[i].Name || !slices.Equal(one.Params, got[i].Params) || !scope.Same(one.Body, got[i].Body) {
			t.Errorf("%s: another one comes of it alone", f.Name)
		}
	}
	// functions are neither numbered again, nor looked at
	odd := []api.Fn{{Name: "f", Params: vars("q", "q"), Body: api.Term{}}, {Name: "f"}}
	if got := All(odd); len(got) != 2 || got[0].Name != "f" || got[1].Name != "f" || !slices.Equal(got[0].Params, odd[0].Params) || !scope.Same(got[0].Body, api.Term{}) {
		t.Errorf("%v comes", got)
	}
	if got := Fn(api.Fn{}); got.Name != "" || len(got.Params) != 0 || !scope.Same(got.Body, api.Term{}) {
		t.Errorf("%v comes of nothing", got)
	}
}
