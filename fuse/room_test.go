package fuse

import (
	"reflect"
	"testing"

	"exactchange/api"
	"exactchange/scope"
	"exactchange/text"
)

func spareNames(l []string) []string { return append(l, "spare")[:len(l)] }

// spare gives each list in t room behind it, with litter there.
func spare(t api.Term) api.Term {
	args := make([]api.Term, 0, len(t.Args)+1)
	for _, a := range t.Args {
		args = append(args, spare(a))
	}
	cases := make([]api.Case, 0, len(t.Cases)+1)
	for _, c := range t.Cases {
		cases = append(cases, api.Case{Tag: c.Tag, Vars: spareNames(c.Vars), Body: spare(c.Body)})
	}
	t.Vars = spareNames(t.Vars)
	t.Args = append(args, one(names("a"), drop("x", whole(5))))[:len(args)]
	t.Cases = append(cases, api.Case{Tag: 9, Vars: names("a"), Body: drop("x", whole(5))})[:len(cases)]
	return t
}

// roomy is a function with what is fused, what is not, and a take and a room of its own, with spare room behind all of its lists.
func roomy(t *testing.T) api.Fn {
	t.Helper()
	f := counting(t, "(fn f (x y) (let z (match x (#1 (a b c) (#2 c a)) (#0 () y)) (match y (#2 (a b) (match a (#1 (c) (#2 y b c)))) (#1 (a) (f a z)))))")[0]
	ab := names("a", "b")
	use := api.Term{Kind: api.TmUse, N: 2, Token: "k1", Args: []api.Term{variable("a"), variable("b")}}
	hold := api.Term{Kind: api.TmHold, Name: "x", Token: "k1", Vars: names("a", "b"), Args: []api.Term{use}}
	f.Body = spare(of(api.TmCon, f.Body, one(ab, hold), one(ab, take("x", ab, con("a", "b"))), one(ab, drop("x", whole(5)))))
	f.Params = spareNames(f.Params)
	return f
}

// told is t with the spare room of its lists told, too.
func told(t api.Term) api.Term {
	var args []api.Term
	for _, a := range t.Args[:cap(t.Args)] {
		args = append(args, told(a))
	}
	var cases []api.Case
	for _, c := range t.Cases[:cap(t.Cases)] {
		cases = append(cases, api.Case{Tag: c.Tag, Vars: c.Vars[:cap(c.Vars)], Body: told(c.Body)})
	}
	t.Vars, t.Args, t.Cases = t.Vars[:cap(t.Vars)], args, cases
	return t
}

func sameRoom(a, b api.Fn) bool {
	return reflect.DeepEqual(a.Params[:cap(a.Params)], b.Params[:cap(b.Params)]) && reflect.DeepEqual(told(a.Body), told(b.Body))
}

// spoil writes over all that t can reach, spare room too.
func spoil(t *api.Term) {
	spoilNames(t.Vars)
	for i := range t.Args[:cap(t.Args)] {
		spoil(&t.Args[:cap(t.Args)][i])
	}
	for i := range t.Cases[:cap(t.Cases)] {
		c := &t.Cases[:cap(t.Cases)][i]
		spoilNames(c.Vars)
		spoil(&c.Body)
		c.Tag = -1
	}
	t.Kind, t.N, t.Name, t.Token = -1, -1, "spoilt", "spoilt"
}

func spoilNames(l []string) {
	for i := range l[:cap(l)] {
		l[:cap(l)][i] = "spoilt"
	}
}

// apart holds that neither what is handed in nor what is answered changes with the other one.
func apart(t *testing.T, what string, of func(f api.Fn) api.Fn) {
	t.Helper()
	given, want := roomy(t), of(roomy(t))
	got := of(given)
	if !sameRoom(given, roomy(t)) {
		t.Errorf("%s: what was handed in is changed: %#v", what, given)
	}
	spoilNames(given.Params)
	spoil(&given.Body)
	if !reflect.DeepEqual(got, want) {
		t.Errorf("%s: %s is left of what was answered", what, text.Term(got.Body))
	}
	given = roomy(t)
	got = of(given)
	spoilNames(got.Params)
	spoil(&got.Body)
	if !sameRoom(given, roomy(t)) {
		t.Errorf("%s: what was handed in is changed with what was answered: %#v", what, given)
	}
}

func TestWhatIsHandedInIsOnlyRead(t *testing.T) {
	apart(t, "All", func(f api.Fn) api.Fn { return All([]api.Fn{f})[0] })
	apart(t, "Term", func(f api.Fn) api.Fn { return api.Fn{Body: Term(f.Body)} })
	apart(t, "Steps", func(f api.Fn) api.Fn { return api.Fn{Body: whole(Steps(f.Body))} })
}

// lists calls met with where each list that t can reach begins.
func lists(t *api.Term, met func(first any)) {
	if vars := t.Vars[:cap(t.Vars)]; len(vars) > 0 {
		met(&vars[0])
	}
	args, cases := t.Args[:cap(t.Args)], t.Cases[:cap(t.Cases)]
	if len(args) > 0 {
		met(&args[0])
	}
	for i := range args {
		lists(&args[i], met)
	}
	if len(cases) > 0 {
		met(&cases[0])
	}
	for i := range cases {
		if vars := cases[i].Vars[:cap(cases[i].Vars)]; len(vars) > 0 {
			met(&vars[0])
		}
		lists(&cases[i].Body, met)
	}
}

func TestNoListsOfAnAnswerShare(t *testing.T) {
	f := roomy(t)
	f.Body = of(api.TmLet, f.Body, f.Body)
	got := All([]api.Fn{f, f})
	seen := map[any]int{}
	once := func(first any) {
		if seen[first]++; seen[first] > 1 {
			t.Errorf("a list stands at two places of %s", text.Print(got))
		}
	}
	lists(&got[0].Body, once)
	lists(&got[1].Body, once)
	if &got[0].Params[0] == &got[1].Params[0] || len(seen) == 0 {
		t.Error("the parameters stand at two places, or nothing is told")
	}
}

func TestAnswersHangOnArgumentsAlone(t *testing.T) {
	f := roomy(t)
	first, n := All([]api.Fn{f})[0], Steps(f.Body)
	for range 20 {
		if got := All([]api.Fn{f})[0]; !scope.Same(got.Body, first.Body) || !scope.Same(Term(f.Body), first.Body) {
			t.Fatalf("%s comes, and then %s", text.Term(first.Body), text.Term(got.Body))
		}
		if got := Steps(f.Body); got != n {
			t.Fatalf("%d steps, and then %d", n, got)
		}
	}
}

func TestNothingIsAList(t *testing.T) {
	for kind := range 15 {
		none := api.Term{Kind: kind}
		empty := api.Term{Kind: kind, Vars: []string{}, Args: []api.Term{}, Cases: []api.Case{}}
		if !scope.Same(Term(none), Term(empty)) || Steps(none) != Steps(empty) {
			t.Errorf("kind %d: something else comes of nothing than of what is empty", kind)
		}
	}
}
