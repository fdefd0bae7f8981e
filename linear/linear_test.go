package linear

import (
	"math"
	"slices"
	"testing"

	"exactchange/api"
	"exactchange/own"
	"exactchange/plain"
	"exactchange/scope"
	"exactchange/text"
)

func TestParametersAreThereOnce(t *testing.T) {
	found(t, api.OK, whole(1))
	found(t, api.OK, variable("x"), "x")
	found(t, api.OK, variable(""), "")
	found(t, api.ErrLeft, whole(1), "x")
	found(t, api.ErrLeft, variable("x"), "x", "y")
	found(t, api.ErrName, variable("x"), "x", "x")
	found(t, api.ErrName, api.Term{}, "x", "y", "z", "y")
	found(t, api.ErrName, whole(1), "", "")
	found(t, api.ErrNone, variable("f"), "x")
}

func TestEachIsUsedUpOnce(t *testing.T) {
	foundAll(t, []row{
		{"x", api.ErrLeft},
		{"z", api.ErrNone},
		{"5", api.ErrLeft},
		{"(#1 x y)", api.OK},
		{"(#1 y x)", api.OK},
		{"(f y x)", api.OK},
		{"(x y x)", api.OK},
		{"(+ x y)", api.OK},
		{"(#1)", api.ErrLeft},
		{"(f)", api.ErrLeft},
		{"(#1 x)", api.ErrLeft},
		{"(#1 x x)", api.ErrTwice},
		{"(f x y x)", api.ErrTwice},
		{"(+ y y)", api.ErrTwice},
		{"(#1 x z x)", api.ErrNone},
		{"(#1 x x z)", api.ErrTwice},
		// arguments that are no names, one by one
		{"(#1 x y 5)", api.ErrForm},
		{"(f x (#1 y))", api.ErrForm},
		{"(+ 1 x)", api.ErrForm},
		{"(+ z 1)", api.ErrNone},
		{"(+ 1 z)", api.ErrForm},
		{"(f x x 1)", api.ErrTwice},
		{"(f x 1 x)", api.ErrForm},
	})
	found(t, api.OK, of(api.TmPrim, "", variable("c"), variable("a"), variable("b")), "a", "b", "c")
	found(t, api.OK, of(api.TmCon, ""))
}

func TestKinds(t *testing.T) {
	for _, kind := range []int{math.MinInt, -1, 0, 14, 99, math.MaxInt} {
		wrong := of(kind, "x", variable("x"))
		found(t, api.ErrKind, wrong, "x")
		found(t, api.ErrKind, of(api.TmDrop, "x", wrong), "x")
		found(t, api.ErrKind, of(api.TmLet, "y", wrong, variable("q")), "x")
		found(t, api.ErrKind, match("x", api.Case{Body: wrong}), "x")
		found(t, api.ErrForm, of(api.TmCon, "", wrong), "x")
		found(t, api.ErrForm, api.Term{Kind: api.TmMatch, Args: []api.Term{wrong}}, "x")
	}
}

func TestDupAndDrop(t *testing.T) {
	foundAll(t, []row{
		{"(drop x y)", api.OK},
		{"(drop y (drop x 5))", api.OK},
		{"(drop x (drop x y))", api.ErrTwice},
		{"(drop x x)", api.ErrTwice},
		{"(drop z x)", api.ErrNone},
		{"(drop x 5)", api.ErrLeft},
		{"(dup x (#1 x x y))", api.OK},
		{"(dup x (dup x (dup y (#1 x y x y x))))", api.OK},
		{"(dup x (drop x (#1 x y)))", api.OK},
		{"(dup x (#1 x y))", api.ErrLeft},
		{"(dup x (#1 x y x x))", api.ErrTwice},
		{"(dup z (#1 x y))", api.ErrNone},
		{"(dup z (#1 z x y))", api.ErrNone},
		{"(drop x (dup x (#1 x y)))", api.ErrNone},
		// the term itself is looked at ahead of its argument
		{"(drop z (#1 x x))", api.ErrNone},
		{"(dup z (#1 x 1))", api.ErrNone},
		{"(drop x (#1 x 1))", api.ErrTwice},
	})
}

func TestHowManyArgumentsCounting(t *testing.T) {
	for _, kind := range []int{api.TmDup, api.TmDrop, api.TmTake, api.TmHold, api.TmFree} {
		for n := range 4 {
			b := of(kind, "q", slices.Repeat([]api.Term{variable("x")}, n)...)
			b.Vars = []string{"q"}
			want := api.ErrForm
			if n == 1 && (kind == api.TmDup || kind == api.TmDrop || kind == api.TmFree) {
				want = api.ErrNone
			}
			found(t, want, b, "x")
			b.Name, b.Vars = "x", nil
			if n != 1 {
				found(t, api.ErrForm, b, "x")
			}
		}
	}
}

func TestMatches(t *testing.T) {
	foundAll(t, []row{
		{"(match x)", api.OK},
		{"(match z)", api.ErrNone},
		{"(match 5)", api.ErrForm},
		{"(match (#1 x) (#1 (a) (drop x y)))", api.ErrForm},
		{"(drop x (match x (#0 () y)))", api.ErrNone},
		{"(match x (#0 () (#1 x y)))", api.OK},
		{"(match x (#0 () (drop x y)) (#1 (a b) (dup b (drop x (#2 b y)))))", api.OK},
		{"(match x (#0 () (drop x y)) (#0 () (drop y x)) (#99 () (drop x (drop y 1))))", api.OK},
		{"(match x (#0 () y))", api.ErrLeft},
		{"(match x (#0 () (drop x y)) (#1 () y))", api.ErrLeft},
		{"(match x (#0 () (drop x y)) (#1 () (#1 x x)))", api.ErrTwice},
		{"(match x (#0 () y) (#1 () (#1 x x)))", api.ErrLeft},
		{"(match x (#0 () (match y (#0 () (#1 x y)) (#1 () (+ y x)))) (#1 () (#1 x y)))", api.OK},
		// what is in it is known, and not there, until it is counted while that is there, or itself
		{"(match x (#1 (a) (drop x (#1 a y))))", api.ErrTwice},
		{"(match x (#1 (a) (drop a (drop x y))))", api.ErrTwice},
		{"(match x (#1 (a) (drop x (dup a (#1 a y)))))", api.ErrNone},
		{"(match x (#1 (a) (dup a (drop x (dup a (#1 a a y))))))", api.OK},
		{"(match x (#1 (a) (dup a (drop x (drop a (dup a (#1 a y)))))))", api.ErrNone},
		{"(match x (#1 (a) (dup a (dup a (drop x (#1 a a y))))))", api.OK},
		{"(match x (#1 (a) (match a (#0 () (drop x y)))))", api.ErrNone},
		{"(match x (#1 (a) (dup a (match a (#1 (b) (dup b (drop a (drop x (#1 b y)))))))))", api.OK},
		// of what lies in one that lies in another, the other one is not asked
		{"(match x (#1 (a) (dup a (match a (#1 (b) (drop a (dup b (drop x (#1 b y)))))))))", api.ErrNone},
		// names of cases
		{"(match x (#1 (x) (drop x y)))", api.ErrName},
		{"(match x (#1 (a y) (drop x y)))", api.ErrName},
		{"(match x (#1 (a a) (drop x y)))", api.ErrName},
		{"(match x (#1 (a) (dup a (match a (#1 (a) (drop x y))))))", api.ErrName},
		{"(match x (#1 (a) (match y (#1 (a) (drop x y)))))", api.ErrName},
		{"(match x (#0 () (drop x y)) (#1 (a y a) 5))", api.ErrName},
		{"(match x (#0 () 5) (#1 (a a) (drop x y)))", api.ErrLeft},
		{"(match x (#0 (a b) (drop x y)) (#1 (b a) (drop x y)) (#2 (a) (dup a (drop x (#1 a y)))))", api.OK},
		{"(match x (#0 (a) (drop x y)) (#1 () (dup a (drop x y))))", api.ErrNone},
		{"(match x (#0 (a) (drop x y)) (#1 () (drop x (let a 5 (#1 a y)))))", api.OK},
	})
	two := match("x", api.Case{Body: variable("x")})
	two.Args = append(two.Args, variable("x"))
	found(t, api.ErrForm, two, "x")
	two.Args = nil
	found(t, api.ErrForm, two, "x")
}

func TestLets(t *testing.T) {
	foundAll(t, []row{
		{"(let z x (#1 z y))", api.OK},
		{"(let z (#1 y x) z)", api.OK},
		{"(let z 5 (#1 x y z))", api.OK},
		{"(let z 5 (#1 x y))", api.ErrLeft},
		{"(let z 5 (#1 x y z z))", api.ErrTwice},
		{"(let z 5 (dup z (#1 x y z z)))", api.OK},
		{"(let x 5 (#1 x y))", api.ErrName},
		{"(let x x (#1 x y))", api.ErrName},
		{"(drop x (let x 5 (#1 x y)))", api.ErrName},
		{"(let z 5 (let z 6 (#1 x y z)))", api.ErrName},
		{"(match x (#1 (a) (let a 5 (#1 a x y))))", api.ErrName},
		{"(let z z (#1 x y))", api.ErrNone},
		// names that the first term needs are there in it once, and once less behind it
		{"(let z x (#1 z x y))", api.ErrTwice},
		{"(let z (#1 x x) (#1 z y))", api.ErrTwice},
		{"(dup x (let z (#1 x x) (#1 z y)))", api.ErrTwice},
		{"(dup x (let z x (#1 x y z)))", api.OK},
		{"(let z (dup x (#1 x x)) (#1 z y))", api.OK},
		{"(dup x (let z (dup x (#1 x x)) (#1 z x y)))", api.OK},
		{"(dup x (let z (drop x 5) (#1 z x y)))", api.OK},
		{"(let z (drop x (dup x x)) (#1 z y))", api.ErrNone},
		{"(drop x (let z x (#1 z y)))", api.ErrTwice},
		{"(drop x (let z (drop x 5) (#1 z y)))", api.ErrTwice},
		{"(let z (match x (#0 () (drop x 5)) (#1 (a) (dup a (drop x a)))) (#1 y z))", api.OK},
		// on each way through the first term
		{"(let z (match x (#0 () (drop x 5)) (#1 () (#1 x y))) z)", api.ErrLeft},
		{"(let z (match x (#0 () (drop x (drop y 5))) (#1 () (#1 x y))) z)", api.OK},
		{"(let z (match x (#0 () x) (#1 () (drop x (drop y 5)))) z)", api.ErrLeft},
		// the first term is looked at ahead of the second one, and the name ahead of both
		{"(let z (#1 x 1) (#1 x))", api.ErrForm},
		{"(let z w (+ 1 1))", api.ErrNone},
		{"(let x w (+ 1 1))", api.ErrName},
		// what lies in what
		{"(match x (#1 (a) (let z (dup a (#1 a x)) (#1 y z))))", api.OK},
		{"(match x (#1 (a) (let z (dup a a) (#1 x y z))))", api.ErrNone},
		{"(match x (#1 (a) (dup a (let z (dup a (#1 a a)) (#1 x y z)))))", api.OK},
		{"(match x (#1 (a b) (let z (take x (a b) (#1 b a)) (#1 y z))))", api.OK},
		{"(match x (#1 (a b) (let z (take x (a b) a) (#1 y z))))", api.ErrLeft},
		// what is bound in the first term is neither needed nor known outside
		{"(let z (let w x (#1 w)) (let w y (#1 w z)))", api.OK},
		{"(let z (let z x z) (#1 y z))", api.OK},
		{"(let z (match x (#1 (a) (dup a (drop x a)))) (match y (#1 (a) (dup a (drop y (#1 a z))))))", api.OK},
		{"(let z (let w x w) (#1 y z w))", api.ErrNone},
		{"(let z (match x (#1 (a) (dup a (drop x a)))) (dup a (#1 y z a)))", api.ErrNone},
		{"(let z (let y 5 y) (#1 x y z))", api.OK},
		{"(let z (let y 5 (#1 x y)) (#1 y z))", api.OK},
		{"(let z (match x (#1 (y) (drop x 5))) (#1 y z))", api.OK},
		// lets within first terms of lets
		{"(let z (let w (let v (#1 x) v) (#1 w y)) z)", api.OK},
		{"(let z (let w (let v (#1 x y) v) (#1 w y)) z)", api.ErrTwice},
		{"(dup y (let z (let w (let v (#1 x y) v) (#1 w)) (#1 z y)))", api.OK},
		{"(dup y (let z (let w (let v (#1 x y) v) (#1 w y)) z))", api.ErrTwice},
		{"(let z (dup y (let w (let v (#1 x y) v) (#1 w y))) z)", api.OK},
		{"(let z (dup y (let w (let v (#1 x y) v) (#1 w y))) (#1 z x))", api.ErrTwice},
	})
	for _, n := range []int{0, 1, 3} {
		b := of(api.TmLet, "x", slices.Repeat([]api.Term{variable("x")}, n)...)
		found(t, api.ErrForm, b, "x")
	}
}

func TestTakes(t *testing.T) {
	foundAll(t, []row{
		{"(match x (#1 (a b) (take x (a b) (#1 a b y))))", api.OK},
		{"(match x (#1 (a b) (take x (b) (#1 b y))))", api.OK},
		{"(match x (#1 (a b) (take x (b a) (drop a (#1 b y)))))", api.OK},
		{"(match x (#1 (a b) (take x (a b) (#1 a y))))", api.ErrLeft},
		{"(match x (#1 (a b) (take x (a) (#1 a b y))))", api.ErrTwice},
		{"(match x (#1 (a b) (take x (a a) (#1 a a y))))", api.OK},
		{"(match x (#1 (a b) (take x (a b) (#1 a b x y))))", api.ErrTwice},
		{"(match x (#1 (a b) (dup a (take x (a) (#1 a a y)))))", api.OK},
		{"(match x (#1 (a) (dup a (match a (#1 (b) (drop x (take a (b) (#1 b y))))))))", api.OK},
		{"(match x (#1 (a b) (take x (a b) (dup a (#1 a b a y)))))", api.OK},
		{"(take x y)", api.OK},
		{"(take z (#1 x y))", api.ErrNone},
		{"(drop x (take x y))", api.ErrTwice},
		{"(take x (y) y)", api.ErrForm},
		{"(take x (z) y)", api.ErrForm},
		{"(take x (x) y)", api.ErrForm},
		{"(match x (#1 (a) (take y (a) (#1 x a))))", api.ErrForm},
		{"(match x (#1 (a) (dup a (match a (#1 (b) (take x (b) (#1 a b y)))))))", api.ErrForm},
		{"(match x (#1 (a) (drop x (take x (a) (#1 a y)))))", api.ErrTwice},
		{"(match x (#1 (a) (drop x (take x (a z) (#1 a y)))))", api.ErrForm},
		{"(match x (#0 () (drop x y)) (#1 (a) (take x (a) (#1 a y))) (#2 () (take x (a) (#1 a y))))", api.ErrForm},
	})
	// A name that lies in nothing does not lie in the name that is empty.
	empty := api.Term{Kind: api.TmTake, Vars: []string{"x"}, Args: []api.Term{variable("x")}}
	found(t, api.ErrForm, empty, "", "x")
	found(t, api.ErrNone, of(api.TmDrop, "x", of(api.TmDup, "x", of(api.TmCon, "", variable("x"), variable("")))), "", "x")
	empty.Vars = []string{"a"}
	empty.Args = []api.Term{of(api.TmCon, "", variable("a"), variable("x"))}
	found(t, api.OK, match("", api.Case{Vars: []string{"a"}, Body: empty}), "", "x")
}

func TestTokens(t *testing.T) {
	foundAll(t, []row{
		{"(match x (#1 (a b) (hold x k (a b) (drop y (use k (#2 b a))))))", api.OK},
		{"(match x (#1 (a b) (hold x k (a b) (free k (#3 a b y)))))", api.OK},
		{"(match x (#1 (a b) (hold x k (a b) (#3 a b y))))", api.ErrLeft},
		{"(match x (#1 (a b) (hold x k (a b) (drop a (drop y (use k (#2 b)))))))", api.ErrNone},
		{"(match x (#1 (a b) (hold x k (a b) (use k (#2 b a y)))))", api.ErrNone},
		{"(match x (#1 (a b) (hold x k (a b) (drop y (use l (#2 b a))))))", api.ErrNone},
		{"(match x (#1 (a b) (hold x k (b) (drop y (use k (#2 b))))))", api.OK},
		{"(match x (#1 (a b) (hold x k (a b) (free k (free k (#3 a b y))))))", api.ErrNone},
		{"(match x (#1 (a b) (hold x k (a b) (free k (drop y (use k (#3 a b)))))))", api.ErrNone},
		{"(match x (#1 (a b) (hold x k (a b) (free l (#3 a b y)))))", api.ErrNone},
		{"(use k (#1 x y))", api.ErrNone},
		{"(free k (#1 x y))", api.ErrNone},
		// names that are in it, and it itself, are counted ahead of the token
		{"(match x (#1 (a b) (hold x k (a y) (free k (#3 a b y)))))", api.ErrForm},
		{"(drop x (hold x k (#1 y)))", api.ErrTwice},
		{"(hold z k (free k (#1 x y)))", api.ErrNone},
		{"(hold x k (free k y))", api.OK},
		{"(hold x k (hold y k (use k (#1))))", api.ErrName},
		{"(hold x k (hold x k (use k (#1))))", api.ErrTwice},
		{"(hold x k (hold y l (free l (use k (#1)))))", api.OK},
		{"(hold x k (hold y l (use k (#1))))", api.ErrLeft},
		{"(hold x k (use k (#1)))", api.ErrLeft},
		{"(hold x k y)", api.ErrLeft},
		{"(hold x x (free x y))", api.OK},
		// the token goes ahead of the arguments
		{"(hold x k (use k (#1 5)))", api.ErrNone},
		{"(match x (#1 (a) (hold x k (a) (use k (#1 5)))))", api.ErrForm},
		{"(match x (#1 (a b) (hold x k (a b) (use k (#1 a a)))))", api.ErrTwice},
		{"(match x (#1 (a b) (hold x k (a b) (use k (#1 a b)))))", api.ErrLeft},
		// one that was used up may be there again
		{"(hold x k (free k (hold y k (use k (#1)))))", api.OK},
		// case by case
		{"(match y (#0 () (hold x k (free k y))) (#1 () (hold x k (drop y (use k (#1))))))", api.OK},
		{"(hold x k (match y (#0 () (free k y)) (#1 () (drop y (use k (#1))))))", api.OK},
		{"(hold x k (match y (#0 () (free k y)) (#1 () y)))", api.ErrLeft},
		{"(hold x k (match y (#0 () y) (#1 () (free k y))))", api.ErrLeft},
	})
	for token, want := range map[string]api.Errno{"": api.ErrName, "K": api.OK, "k1": api.OK} {
		free := api.Term{Kind: api.TmFree, Token: token, Args: []api.Term{whole(5)}}
		found(t, want, api.Term{Kind: api.TmHold, Name: "x", Token: token, Args: []api.Term{free}}, "x")
	}
	found(t, api.ErrNone, api.Term{Kind: api.TmUse}, "x")
	found(t, api.ErrNone, api.Term{Kind: api.TmFree, Args: []api.Term{variable("x")}}, "x")
}

func TestTokensAndLets(t *testing.T) {
	foundAll(t, []row{
		// a token goes where it stands
		{"(match x (#1 (a b) (hold x k (a b) (let z (use k (#2 a b)) (#1 y z)))))", api.OK},
		{"(match x (#1 (a b) (hold x k (a b) (let z (free k (#3 a b)) (#1 y z)))))", api.OK},
		{"(match x (#1 (a b) (hold x k (a b) (let z (#3 a b) (drop y (free k z))))))", api.OK},
		{"(match x (#1 (a b) (hold x k (a b) (let z (#3 a b) (#1 y z)))))", api.ErrLeft},
		{"(hold x k (let z (free k 5) (free k (#1 y z))))", api.ErrNone},
		{"(hold x k (let z (use k (#1)) (let w (use k (#1)) (#1 y z w))))", api.ErrNone},
		{"(hold x k (let z (free l 5) (free k (#1 y z))))", api.ErrNone},
		{"(hold x k (let z (match y (#0 () (free k y)) (#1 () y)) z))", api.ErrLeft},
		{"(hold x k (let z (match y (#0 () y) (#1 () (free k y))) z))", api.ErrLeft},
		{"(hold x k (let z (match y (#0 () (drop y (use k (#1)))) (#1 () (free k y))) z))", api.OK},
		{"(hold x k (let z (let w (use k (#1)) w) (#1 y z)))", api.OK},
		{"(hold x k (let z (let w (use k (#1)) (free k w)) (#1 y z)))", api.ErrNone},
		// those of a hold in the first term are its own
		{"(hold x k (let z (hold y k (use k (#1))) (free k z)))", api.OK},
		{"(hold x k (let z (hold y k (use k (#1))) z))", api.ErrLeft},
		{"(hold x k (let z (free k (hold y k (use k (#1)))) z))", api.ErrNone},
		{"(hold x k (let z (free k (hold y k (use k (#1)))) (free k z)))", api.ErrNone},
		{"(hold x k (let z (free k (hold y l (use l (#1)))) z))", api.OK},
		{"(hold x k (let z (match y (#0 () (free k y)) (#1 () (hold y k (use k (#1))))) z))", api.ErrNone},
		{"(hold x k (let z (match y (#0 () (hold y k (use k (#1)))) (#1 () (free k y))) z))", api.ErrNone},
		{"(hold x k (let z (match y (#0 () (hold y k (use k (#1))))) (free k z)))", api.OK},
		{"(hold x k (let z (let w (free k 5) (hold y k (use k (#1)))) z))", api.ErrNone},
		{"(hold x k (let z (let w (hold y k (use k (#1))) (free k w)) z))", api.ErrNone},
		{"(hold x k (let z (let w (hold y k (use k (#1))) w) (free k z)))", api.OK},
		// a hold around it, behind it, or of another token, takes none away
		{"(hold x k (let z (free k 5) (hold y k (use k (#1 z)))))", api.ErrNone},
		{"(match y (#1 (a) (hold x k (let z (free k 5) (hold y k (a) (use k (#1 a)))))))", api.ErrLeft},
		{"(match y (#1 (a) (hold x k (let z (free k 5) (drop z (hold y k (a) (use k (#1 a))))))))", api.OK},
		{"(hold x k (hold y l (let z (free k (use l (#1))) z)))", api.OK},
		{"(let z (hold x k (free k 5)) (hold y k (free k z)))", api.OK},
		{"(let z (hold x k 5) (free k (#1 y z)))", api.ErrLeft},
	})
}

// Of names that a let or a case in a let's first term has, that term has none of outside, wherever else in it they stand.
func TestNamesThatSomethingInTheFirstTermHas(t *testing.T) {
	foundAll(t, []row{
		// as a let's
		{"(let z (let y y y) (#1 x z))", api.ErrNone},
		{"(let z (let y (#1 y) x) z)", api.ErrNone},
		{"(let z (drop x (let x y x)) z)", api.ErrNone},
		{"(let z (drop y (let w (let y x y) w)) z)", api.ErrNone},
		{"(let z (let w (drop y 5) (let y x y)) z)", api.ErrNone},
		{"(let z (let w (let y x y) (drop y w)) z)", api.ErrNone},
		{"(let z (dup y (let y x (#1 y))) z)", api.ErrNone},
		{"(let z (take y (let y x (#1 y))) z)", api.ErrNone},
		{"(let z (hold y k (free k (let y x (#1 y)))) z)", api.ErrNone},
		{"(let z (match y (#0 () (let y x y))) z)", api.ErrNone},
		// as a case's
		{"(let z (drop y (match x (#1 (y) (drop x 5)))) z)", api.ErrNone},
		{"(let z (drop x (match y (#1 (a x) y))) z)", api.ErrNone},
		{"(let z (match x (#0 () (#1 x y)) (#1 (y) x)) z)", api.ErrNone},
		{"(let z (match x (#0 (y) x) (#1 () (#1 x y))) z)", api.ErrNone},
		{"(let z (match x (#1 (x) 5)) (#1 y z))", api.ErrNone},
		// it stays outside as it was
		{"(let z (let y x y) (#1 y z))", api.OK},
		{"(let z (match x (#1 (y) (take x (y) y))) (#1 y z))", api.OK},
		{"(let z (let y x y) z)", api.ErrLeft},
		{"(drop y (let z (let y x y) z))", api.OK},
		{"(drop y (let z (let y x y) (#1 y z)))", api.ErrTwice},
		{"(dup y (let z (let y x y) (#1 y z y)))", api.OK},
		{"(let z (let w (let y x y) w) (#1 y z))", api.OK},
		// what has it around the first term, behind it, or beside it, takes none away
		{"(let w x (let z (drop w 5) (#1 y z)))", api.OK},
		{"(let z (drop x 5) (let w (let v y v) (#1 z w)))", api.OK},
		{"(let z (drop x 5) (let x y (#1 x z)))", api.ErrName},
		{"(let z (drop x 5) (let w (let x y x) (#1 z w)))", api.OK},
		{"(let z (let v (drop x 5) (let w (let u y u) (#1 v w))) z)", api.OK},
		{"(match x (#0 () (let z (drop x 5) (#1 y z))) (#1 (a) (let z (let w (let v x v) w) (#1 y z))))", api.OK},
		// the first term of a let in it may have what is left to it
		{"(let z (let w x (let x 5 (#1 x w))) (#1 y z))", api.ErrNone},
		{"(let z (let w x (let v 5 (#1 v w))) (#1 y z))", api.OK},
	})
	shadowed := of(api.TmCon, "", variable("y"), of(api.TmLet, "y", whole(5), variable("y")))
	found(t, api.ErrNone, of(api.TmLet, "z", shadowed, variable("z")), "y")
	for n := range 4 {
		short := of(api.TmLet, "y", slices.Repeat([]api.Term{variable("x")}, n)...)
		found(t, api.ErrNone, of(api.TmLet, "z", of(api.TmDrop, "y", short), variable("z")), "x", "y")
		hold := api.Term{Kind: api.TmHold, Name: "x", Token: "k", Args: slices.Repeat([]api.Term{whole(5)}, n)}
		b := token(api.TmHold, "x", "k", of(api.TmLet, "z", token(api.TmFree, "", "k", hold), variable("z")))
		found(t, api.ErrNone, b, "x")
	}
}

func TestWhatHasNoPartIn(t *testing.T) {
	litter := []api.Case{{Tag: 3, Vars: []string{"x", "x"}, Body: of(api.TmDrop, "y", variable("q"))}}
	for _, s := range []string{
		"(#1 x y)", "(f x y)", "(+ x y)", "(dup x (drop x (#1 y x)))", "(let z x (#1 y z))", "(let z (let w 5 (#1 w x)) (drop z y))",
		"(match x (#1 (a) (take x (a) (#1 a y))) (#2 (a b) (hold x k (a b) (drop y (use k (#1 a b))))) (#0 () (hold x k (let z 5 (free k (#1 y z))))))",
		"(let z (match x (#1 (a) (dup a (drop x (#1 a))))) (#1 z y))",
	} {
		found(t, api.OK, littered(body(t, s), litter), "x", "y")
		found(t, api.ErrNone, littered(of(api.TmDrop, "w", body(t, s)), litter), "x", "y")
		found(t, api.ErrLeft, littered(body(t, s), litter), "x", "y", "k")
	}
}

// littered has something stand in all fields that a term's kind has not.
func littered(t api.Term, cases []api.Case) api.Term {
	args := make([]api.Term, len(t.Args))
	for i, a := range t.Args {
		args[i] = littered(a, cases)
	}
	if t.Kind == api.TmVar || t.Kind == api.TmInt {
		args = []api.Term{variable("y"), of(api.TmUse, "x")}
	}
	t.Args = args
	if t.Kind == api.TmMatch {
		own := slices.Clone(t.Cases)
		for i, c := range own {
			own[i].Body = littered(c.Body, cases)
		}
		t.Cases = own
	} else {
		t.Cases = cases
	}
	switch t.Kind {
	case api.TmInt, api.TmCon, api.TmPrim, api.TmMatch, api.TmUse, api.TmFree:
		t.Name = "y"
	}
	if t.Kind != api.TmTake && t.Kind != api.TmHold {
		t.Vars = []string{"x", "y", "x"}
	}
	if t.Kind != api.TmHold && t.Kind != api.TmUse && t.Kind != api.TmFree {
		t.Token = "k"
	}
	return t
}

// programs are right ones.
func programs() []string {
	return []string{
		"(fn f () 1)",
		"(fn f (x y) (+ x 1))",
		"(fn f (x y z) (#1 z z z x))",
		"(fn f (l) (match l (#0 () 0) (#1 (x r) (+ x (f r)))))",
		"(fn f (l a) (match l (#0 () a) (#1 (x r) (f r (#1 x a)))))",
		"(fn f (l) (match l (#0 () (#0)) (#1 (x r) (#1 (+ x 1) (f r)))))",
		"(fn f (x) (let x (#1 x x) (let y (match x (#1 (a b) (#2 b b a))) (#3 x y x))))",
		"(fn f (t) (match t (#2 (a b) (match a (#2 (c d) (#2 d (#1 b c))) (#1 (z) (#4)) (#0 () t))) (#0 () 7)))",
		"(fn f (p q) (match p (#1 (a b) (match q (#1 (c d) (#1 a d)) (#0 () (#1 b a)))) (#0 () (f q p))))",
		"(fn f (x) (let y (let z (#1 x) (match z (#1 (a) (#2 a z)))) 5))",
		"(fn f (x y z) (#1 (match x (#0 () (+ y z)) (#1 (a) (f a a y))) (let x (f z y x) (#2 x x y)) (match (f x y z) (#3 (a b c) (f c (f b b a) z)))))",
		"(fn f (x y) (let z (+ x x) (match (f y 2) (#1 (a b) (#2 a (f z 3) x)) (#0 () 7))))",
	}
}

// plainOnes are programs, plain.
func plainOnes(t *testing.T) []api.Fn {
	t.Helper()
	var out []api.Fn
	for _, s := range programs() {
		l, err := text.Parse(s)
		if err != api.OK || scope.Check(l, text.Name) != api.OK {
			t.Fatalf("%q is not right", s)
		}
		out = append(out, plain.All(l)...)
	}
	return out
}

func TestFunctionsThatCountAreRight(t *testing.T) {
	for _, f := range own.All(plainOnes(t)) {
		if got := Check(f); got != api.OK {
			t.Errorf("%s of %q: %d comes", text.Term(f.Body), f.Params, got)
		}
		f.Params = append(f.Params, "q")
		if got := Check(f); got != api.ErrLeft {
			t.Errorf("%s of %q: %d comes", text.Term(f.Body), f.Params, got)
		}
	}
}

// changed are copies of t, each with another one of the terms in it changed, where change says yes.
func changed(t api.Term, change func(t api.Term) (api.Term, bool)) []api.Term {
	var out []api.Term
	if c, ok := change(scope.Own(t)); ok {
		out = append(out, c)
	}
	for i, a := range t.Args {
		for _, c := range changed(a, change) {
			whole := scope.Own(t)
			whole.Args[i] = c
			out = append(out, whole)
		}
	}
	for i, k := range t.Cases {
		for _, c := range changed(k.Body, change) {
			whole := scope.Own(t)
			whole.Cases[i].Body = c
			out = append(out, whole)
		}
	}
	return out
}

func TestWhatIsForgottenIsFound(t *testing.T) {
	n := 0
	for _, f := range own.All(plainOnes(t)) {
		forgotten := changed(f.Body, func(t api.Term) (api.Term, bool) {
			if t.Kind == api.TmDup || t.Kind == api.TmDrop {
				return t.Args[0], true
			}
			return t, false
		})
		again := changed(f.Body, func(t api.Term) (api.Term, bool) {
			if t.Kind == api.TmDup || t.Kind == api.TmDrop {
				return of(t.Kind, t.Name, t), true
			}
			return t, false
		})
		for _, b := range append(forgotten, again...) {
			n++
			if got := Check(fn(b, f.Params...)); got == api.OK {
				t.Errorf("nothing is wrong with %s of %q", text.Term(b), f.Params)
			}
		}
	}
	if n < 50 {
		t.Errorf("only %d were looked at", n)
	}
}
