package fuse

import (
	"math"
	"slices"
	"testing"

	"exactchange/api"
	"exactchange/scope"
	"exactchange/text"
)

// row is a function, what must be written of its body when it is fused, and how many steps are in it ahead, and then.
type row struct {
	given, want  string
	before, then int
}

func rows() []row {
	return []row{
		{"(fn f () 1)", "1", 0, 0},
		{"(fn f (x) x)", "v1", 0, 0},
		{"(fn f (x y) (+ x x))", "(drop v2 (dup v1 (+ v1 v1)))", 2, 2},
		// all that is in it is needed, in whatever order
		{"(fn f (x) (match x (#1 (a b) (#2 a b))))", "(match v1 (#1 (v2 v3) (take v1 (v2 v3) (#2 v2 v3))))", 3, 1},
		{"(fn f (x) (match x (#1 (a b) (#2 b a))))", "(match v1 (#1 (v2 v3) (take v1 (v2 v3) (#2 v3 v2))))", 3, 1},
		{"(fn f (x) (match x (#1 (a) a)))", "(match v1 (#1 (v2) (take v1 (v2) v2)))", 2, 1},
		{"(fn f (x) (match x (#1 (a b) (#2 b b a))))", "(match v1 (#1 (v2 v3) (take v1 (v2 v3) (dup v3 (#2 v3 v3 v2)))))", 4, 2},
		// some of it is, or none
		{"(fn f (x) (match x (#1 (a b) a)))", "(match v1 (#1 (v2 v3) (take v1 (v2 v3) (drop v3 v2))))", 2, 2},
		{"(fn f (x) (match x (#1 (a b) b)))", "(match v1 (#1 (v2 v3) (take v1 (v2 v3) (drop v2 v3))))", 2, 2},
		{"(fn f (x) (match x (#1 (a b c) b)))", "(match v1 (#1 (v2 v3 v4) (take v1 (v2 v3 v4) (drop v2 (drop v4 v3)))))", 2, 3},
		{"(fn f (x) (match x (#1 (a b c) 5)))", "(match v1 (#1 (v2 v3 v4) (take v1 (v2 v3 v4) (drop v2 (drop v3 (drop v4 5))))))", 1, 4},
		{"(fn f (x y) (match x (#1 (a) y) (#0 () y)))", "(match v1 (#1 (v3) (take v1 (v3) (drop v3 v2))) (#0 () (drop v1 v2)))", 2, 3},
		{"(fn f (x y) (match x (#1 (a) a) (#0 () y)))", "(match v1 (#1 (v3) (take v1 (v3) (drop v2 v3))) (#0 () (drop v1 v2)))", 4, 3},
		// nothing is in it
		{"(fn f (x) (match x (#0 () 0)))", "(match v1 (#0 () (drop v1 0)))", 1, 1},
		{"(fn f (x) (match x (#0 () x)))", "(match v1 (#0 () v1))", 0, 0},
		// it is needed itself
		{"(fn f (x) (match x (#1 (a) (#2 x a))))", "(match v1 (#1 (v2) (dup v2 (#2 v1 v2))))", 1, 1},
		{"(fn f (x) (match x (#1 (a) x)))", "(match v1 (#1 (v2) v1))", 0, 0},
		{"(fn f (x y) (match x (#1 (a) (#2 x a))))", "(drop v2 (match v1 (#1 (v3) (dup v3 (#2 v1 v3)))))", 2, 2},
		{"(fn f (x) (match x (#1 (a) (match x (#2 (b) (#3 a b))))))", "(match v1 (#1 (v2) (dup v2 (match v1 (#2 (v3) (take v1 (v3) (#3 v2 v3)))))))", 3, 2},
		// matches within
		{"(fn f (l) (match l (#0 () 0) (#1 (x r) (+ x (f r)))))", "(match v1 (#0 () (drop v1 0)) (#1 (v2 v3) (take v1 (v2 v3) (let w1 (f v3) (+ v2 w1)))))", 4, 2},
		{"(fn f (x) (match x (#1 (a) (match a (#1 (b) b)))))", "(match v1 (#1 (v2) (take v1 (v2) (match v2 (#1 (v3) (take v2 (v3) v3))))))", 4, 2},
		{"(fn f (x) (let y (match x (#1 (a) a)) (match y (#1 (a b) (f a)))))", "(let v3 (match v1 (#1 (v2) (take v1 (v2) v2))) (match v3 (#1 (v4 v5) (take v3 (v4 v5) (drop v5 (f v4))))))", 4, 3},
		{"(fn f (x) (#1 (match x (#1 (a) a))))", "(let w1 (match v1 (#1 (v2) (take v1 (v2) v2))) (#1 w1))", 2, 1},
	}
}

func TestFunctionsThatCount(t *testing.T) {
	for _, r := range rows() {
		l := counting(t, r.given)
		before := l[0].Body
		got := All(l)[0]
		if s := text.Term(got.Body); s != r.want {
			t.Errorf("%s: %s comes, not %s", r.given, s, r.want)
		}
		if got.Name != l[0].Name || !slices.Equal(got.Params, l[0].Params) {
			t.Errorf("%s: %s of %q comes", r.given, got.Name, got.Params)
		}
		if !scope.Same(Term(before), got.Body) {
			t.Errorf("%s: the body alone comes otherwise", r.given)
		}
		if b, n := Steps(before), Steps(got.Body); b != r.before || n != r.then {
			t.Errorf("%s: %d steps are ahead, and %d then, not %d and %d", r.given, b, n, r.before, r.then)
		}
		stays(t, got.Body)
	}
}

func TestWhatIsATake(t *testing.T) {
	ab, five := names("a", "b"), whole(5)
	comes(t, one(ab, drop("x", five)), one(ab, take("x", ab, drop("a", drop("b", five)))))
	comes(t, one(ab, dup("a", drop("x", con("a")))), one(ab, take("x", ab, drop("b", con("a")))))
	comes(t, one(ab, dup("b", drop("x", con("b")))), one(ab, take("x", ab, drop("a", con("b")))))
	comes(t, one(ab, dup("a", dup("b", drop("x", con("a", "b"))))), one(ab, take("x", ab, con("a", "b"))))
	comes(t, one(ab, dup("b", dup("a", drop("x", con("a", "b"))))), one(ab, take("x", ab, con("a", "b"))))
	ba := names("b", "a", "c")
	comes(t, one(ba, dup("a", drop("x", five))), one(ba, take("x", ba, drop("b", drop("c", five)))))
	// what was behind stays as it was
	comes(t, one(ab, dup("a", drop("x", dup("a", con("a", "a"))))), one(ab, take("x", ab, drop("b", dup("a", con("a", "a"))))))
	comes(t, one(ab, drop("x", drop("x", dup("b", five)))), one(ab, take("x", ab, drop("a", drop("b", drop("x", dup("b", five)))))))
	comes(t, one(ab, dup("a", drop("x", drop("y", con("a"))))), one(ab, take("x", ab, drop("b", drop("y", con("a"))))))
}

func TestWhatIsNoTake(t *testing.T) {
	ab, five := names("a", "b"), whole(5)
	for _, body := range []api.Term{
		five, variable("x"), con("a", "x"), {}, of(14, five), of(api.TmFree, drop("x", five)), of(api.TmUse, drop("x", five)),
		// a name twice, or another one
		dup("a", dup("a", drop("x", five))),
		dup("a", dup("b", dup("a", drop("x", five)))),
		dup("q", drop("x", five)),
		dup("a", dup("x", drop("x", five))),
		dup("x", drop("x", five)),
		dup("", drop("x", five)),
		// it does not go on with the drop of the matched name
		dup("a", five),
		dup("a", dup("b", con("a", "b", "x"))),
		drop("a", five),
		drop("y", drop("x", five)),
		dup("a", drop("y", drop("x", five))),
		dup("a", drop("a", drop("x", five))),
		dup("a", api.Term{Kind: api.TmLet, Name: "z", Args: []api.Term{drop("x", five), drop("x", five)}}),
		dup("a", take("x", ab, five)),
		dup("a", api.Term{Kind: api.TmHold, Name: "x", Token: "k", Vars: ab, Args: []api.Term{five}}),
		take("x", ab, drop("a", con("b"))),
		// without just one argument there is nothing to go on with
		dup("a"), dup("a", drop("x", five), five), dup("a", drop("x")), drop("x"), drop("x", five, five), dup("a", drop("x", five, five)),
	} {
		stays(t, one(ab, body))
	}
	// nothing is in it
	stays(t, one(nil, drop("x", five)))
	stays(t, one([]string{}, drop("x", five)))
	stays(t, one(nil, dup("a", drop("x", five))))
}

func TestCaseByCase(t *testing.T) {
	ab, five := names("a", "b"), whole(5)
	taken := dup("a", drop("x", con("a")))
	given := match("x",
		api.Case{Tag: 7, Vars: ab, Body: taken},
		api.Case{Tag: 0, Body: drop("x", five)},
		api.Case{Tag: 2, Vars: names("b"), Body: taken},
		api.Case{Tag: 1, Vars: names("a"), Body: taken},
		api.Case{Tag: 3, Vars: names("c"), Body: five},
	)
	want := match("x",
		api.Case{Tag: 7, Vars: ab, Body: take("x", ab, drop("b", con("a")))},
		api.Case{Tag: 0, Body: drop("x", five)},
		api.Case{Tag: 2, Vars: names("b"), Body: taken},
		api.Case{Tag: 1, Vars: names("a"), Body: take("x", names("a"), con("a"))},
		api.Case{Tag: 3, Vars: names("c"), Body: five},
	)
	comes(t, given, want)
	stays(t, match("y", given.Cases...))
	stays(t, match("x"))
}

func TestAllWithin(t *testing.T) {
	given := one(names("a"), drop("x", whole(5)))
	want := one(names("a"), take("x", names("a"), drop("a", whole(5))))
	for _, kind := range []int{api.TmCon, api.TmCall, api.TmPrim, api.TmLet, api.TmMatch, api.TmDup, api.TmDrop, api.TmTake, api.TmHold, api.TmUse, api.TmFree} {
		comes(t, of(kind, given), of(kind, want))
		comes(t, of(kind, variable("y"), given, given), of(kind, variable("y"), want, want))
	}
	// both the match that is behind, and the one in whose case it is
	comes(t,
		match("y", api.Case{Vars: names("c"), Body: dup("c", drop("y", given))}),
		match("y", api.Case{Vars: names("c"), Body: take("y", names("c"), want)}))
	comes(t,
		match("y", api.Case{Vars: names("c"), Body: dup("c", given)}, api.Case{Vars: names("d"), Body: drop("y", given)}),
		match("y", api.Case{Vars: names("c"), Body: dup("c", want)}, api.Case{Vars: names("d"), Body: take("y", names("d"), drop("d", want))}))
	// of the same name, each with the names that are its own
	comes(t, one(names("b"), dup("b", given)), one(names("b"), dup("b", want)))
	comes(t, one(names("b"), dup("a", given)), one(names("b"), dup("a", want)))
}

func TestMatchesOfNoName(t *testing.T) {
	c := api.Case{Tag: 1, Vars: names("n"), Body: drop("n", drop("", whole(5)))}
	for _, args := range [][]api.Term{nil, {whole(5)}, {con("x")}, {of(api.TmCall)}, {{}}, {variable("n"), variable("n")}} {
		for _, body := range []api.Term{drop("n", whole(5)), drop("", whole(5)), dup("n", drop("n", whole(5)))} {
			c.Body = body
			stays(t, api.Term{Kind: api.TmMatch, Name: "n", Args: args, Cases: []api.Case{c}})
		}
	}
	// the name that is empty is one as others are
	c.Body = drop("", whole(5))
	comes(t, match("", c), match("", api.Case{Tag: 1, Vars: names("n"), Body: take("", names("n"), drop("n", whole(5)))}))
}

func TestOtherKindsHaveNoCases(t *testing.T) {
	for _, kind := range []int{math.MinInt, -1, 0, api.TmVar, api.TmInt, api.TmCon, api.TmCall, api.TmPrim, api.TmLet, api.TmDup, api.TmDrop, api.TmTake, api.TmHold, api.TmUse, api.TmFree, 14, math.MaxInt} {
		b := of(kind, variable("x"))
		b.Cases = []api.Case{{Tag: 1, Vars: names("a"), Body: drop("x", whole(5))}}
		stays(t, b)
	}
	stays(t, api.Term{})
}

func TestSteps(t *testing.T) {
	five := whole(5)
	for _, kind := range []int{api.TmDup, api.TmDrop, api.TmTake, api.TmHold, api.TmUse, api.TmFree} {
		steps(t, of(kind), 1)
		steps(t, of(kind, five), 1)
		steps(t, of(kind, of(kind, five), of(kind)), 3)
	}
	for _, kind := range []int{math.MinInt, -1, 0, api.TmVar, api.TmInt, api.TmCon, api.TmCall, api.TmPrim, api.TmLet, api.TmMatch, 14, 99, math.MaxInt} {
		steps(t, of(kind), 0)
		steps(t, of(kind, five, five), 0)
	}
	for _, kind := range []int{api.TmCon, api.TmCall, api.TmPrim, api.TmLet, api.TmMatch} {
		steps(t, of(kind, drop("x", five), five, dup("x", drop("y", five))), 3)
	}
	steps(t, match("x", api.Case{Body: drop("x", five)}, api.Case{Body: five}, api.Case{Body: dup("a", match("y", api.Case{Body: drop("a", five)}))}), 3)
	steps(t, take("x", names("a", "b", "c"), five), 1)
	steps(t, api.Term{}, 0)
}

func steps(t *testing.T, given api.Term, want int) {
	t.Helper()
	if got := Steps(given); got != want {
		t.Errorf("%s: %d steps, not %d", text.Term(given), got, want)
	}
}

func TestAll(t *testing.T) {
	for _, l := range [][]api.Fn{nil, {}} {
		if got := All(l); len(got) != 0 {
			t.Errorf("%v comes of nothing", got)
		}
	}
	l := counting(t, "(fn f (x) (match x (#1 (a) a))) (fn g (x y) (match y (#1 (a b) x))) (fn h () 5)")
	want := "(fn f (v1) (match v1 (#1 (v2) (take v1 (v2) v2))))\n(fn g (v1 v2) (match v2 (#1 (v3 v4) (take v2 (v3 v4) (drop v3 (drop v4 v1))))))\n(fn h () 5)\n"
	if got := text.Print(All(l)); got != want {
		t.Errorf("%s comes, not %s", got, want)
	}
	// functions are neither numbered again, nor looked at
	odd := []api.Fn{{Name: "f", Params: names("q", "q"), Body: api.Term{}}, {Name: "f"}}
	if got := All(odd); len(got) != 2 || got[0].Name != "f" || got[1].Name != "f" || !slices.Equal(got[0].Params, odd[0].Params) || !scope.Same(got[0].Body, api.Term{}) {
		t.Errorf("%v comes", got)
	}
}
