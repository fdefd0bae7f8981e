package reuse

import (
	"reflect"
	"testing"

	"exactchange/api"
	"exactchange/scope"
	"exactchange/text"
)

func spareNames(l []string) []string { return append(l, "spare")[:len(l)] }

// spare gives each list in t room behind it, with litter there.
func spare(t api.Term) api.Term {
	args := make([]api.Term, 0, len(t.Args)+1)
	for _, a := range t.Args {
		args = append(args, spare(a))
	}
	cases := make([]api.Case, 0, len(t.Cases)+1)
	for _, c := range t.Cases {
		cases = append(cases, api.Case{Tag: c.Tag, Vars: spareNames(c.Vars), Body: spare(c.Body)})
	}
	t.Vars = spareNames(t.Vars)
	t.Args = append(args, take("x", vars("a"), con("a")))[:len(args)]
	t.Cases = append(cases, api.Case{Tag: 9, Vars: vars("a"), Body: take("x", vars("a"), con("a"))})[:len(cases)]
	return t
}

// roomy is a function with rooms that are used again, or given back, takes that keep none, and a room of its own, with spare room behind all of its lists.
func roomy(t *testing.T) api.Fn {
	t.Helper()
	f := fused(t, "(fn f (x y) (let z (match x (#1 (a b c) (#2 c a)) (#3 (a b) (match y (#0 () (#2 b a)) (#1 (c) a)))) (match y (#2 (a b) (match a (#1 (c) (#2 y b c)))) (#1 (a) (f (#1 a) z)))))")[0]
	ab := vars("a", "b")
	f.Body = spare(of(api.TmCon, f.Body, hold("x", "t", ab, use("t", "a", "b")), take("x", ab, con("a", "b")), match("x", api.Case{Tag: 1, Vars: ab, Body: take("x", ab, whole(5))})))
	f.Params = spareNames(f.Params)
	return f
}

// told is t with the spare room of its lists told, too.
func told(t api.Term) api.Term {
	var args []api.Term
	for _, a := range t.Args[:cap(t.Args)] {
		args = append(args, told(a))
	}
	var cases []api.Case
	for _, c := range t.Cases[:cap(t.Cases)] {
		cases = append(cases, api.Case{Tag: c.Tag, Vars: c.Vars[:cap(c.Vars)], Body: told(c.Body)})
	}
	t.Vars, t.Args, t.Cases = t.Vars[:cap(t.Vars)], args, cases
	return t
}

func sameRoom(a, b api.Fn) bool {
	return reflect.DeepEqual(a.Params[:cap(a.Params)], b.Params[:cap(b.Params)]) && reflect.DeepEqual(told(a.Body), told(b.Body))
}

// spoil writes over all that t can reach, spare room too.
func spoil(t *api.Term) {
	spoilNames(t.Vars)
	for i := range t.Args[:cap(t.Args)] {
		spoil(&t.Args[:cap(t.Args)][i])
	}
	for i := range t.Cases[:cap(t.Cases)] {
		c := &t.Cases[:cap(t.Cases)][i]
		spoilNames(c.Vars)
		spoil(&c.Body)
		c.Tag = -1
	}
	t.Kind, t.N, t.Name, t.Token = -1, -1, "spoilt", "spoilt"
}

func spoilNames(l []string) {
	for i := range l[:cap(l)] {
		l[:cap(l)][i] = "spoilt"
	}
}

// apart holds that neither what is handed in nor what is answered changes with the other one.
func apart(t *testing.T, what string, of func(f api.Fn) api.Fn) {
	t.Helper()
	given, want := roomy(t), of(roomy(t))
	got := of(given)
	if !sameRoom(given, roomy(t)) {
		t.Errorf("%s: what was handed in is changed: %#v", what, given)
	}
	spoilNames(given.Params)
	spoil(&given.Body)
	if !reflect.DeepEqual(got, want) {
		t.Errorf("%s: %s is left of what was answered", what, text.Term(got.Body))
	}
	given = roomy(t)
	got = of(given)
	spoilNames(got.Params)
	spoil(&got.Body)
	if !sameRoom(given, roomy(t)) {
		t.Errorf("%s: what was handed in is changed with what was answered: %#v", what, given)
	}
}

func TestWhatIsHandedInIsOnlyRead(t *testing.T) {
	apart(t, "Fn", Fn)
	apart(t, "All", func(f api.Fn) api.Fn { return All([]api.Fn{f})[0] })
}

func TestFunctionsMayHaveRoomBehindThem(t *testing.T) {
	l := []api.Fn{roomy(t), roomy(t), roomy(t)}
	if got := All(l[:1]); len(got) != 1 {
		t.Errorf("%d functions come of one", len(got))
	}
	for i, f := range l {
		if !sameRoom(f, roomy(t)) {
			t.Errorf("function %d is changed: %#v", i, f)
		}
	}
}

// lists calls met with where each list that t can reach begins.
func lists(t *api.Term, met func(first any)) {
	if vars := t.Vars[:cap(t.Vars)]; len(vars) > 0 {
		met(&vars[0])
	}
	args, cases := t.Args[:cap(t.Args)], t.Cases[:cap(t.Cases)]
	if len(args) > 0 {
		met(&args[0])
	}
	for i := range args {
		lists(&args[i], met)
	}
	if len(cases) > 0 {
		met(&cases[0])
	}
	for i := range cases {
		if vars := cases[i].Vars[:cap(cases[i].Vars)]; len(vars) > 0 {
			met(&vars[0])
		}
		lists(&cases[i].Body, met)
	}
}

func TestNoListsOfAnAnswerShare(t *testing.T) {
	f := roomy(t)
	f.Body = of(api.TmLet, f.Body, f.Body)
	got := All([]api.Fn{f, f})
	seen := map[any]int{}
	once := func(first any) {
		if seen[first]++; seen[first] > 1 {
			t.Errorf("a list stands at two places of %s", text.Print(got))
		}
	}
	lists(&got[0].Body, once)
	lists(&got[1].Body, once)
	if &got[0].Params[0] == &got[1].Params[0] || len(seen) == 0 {
		t.Error("the parameters stand at two places, or nothing is told")
	}
}

func TestAnswersHangOnArgumentsAlone(t *testing.T) {
	f := roomy(t)
	first := Fn(f)
	for range 20 {
		if got := Fn(f); !reflect.DeepEqual(got, first) {
			t.Fatalf("%s comes, and then %s", text.Term(first.Body), text.Term(got.Body))
		}
	}
}

func TestNothingIsAList(t *testing.T) {
	for kind := range 15 {
		none := fn(api.Term{Kind: kind})
		empty := fn(api.Term{Kind: kind, Vars: []string{}, Args: []api.Term{}, Cases: []api.Case{}}, []string{}...)
		a, b := Fn(none), Fn(empty)
		if !scope.Same(a.Body, b.Body) || len(a.Params) != 0 || len(b.Params) != 0 {
			t.Errorf("kind %d: something else comes of nothing than of what is empty", kind)
		}
		both := func(b api.Term) api.Term { return take("x", nil, of(api.TmLet, b, con())) }
		if !scope.Same(Fn(fn(both(none.Body))).Body, Fn(fn(both(empty.Body))).Body) {
			t.Errorf("kind %d: something else comes around nothing than around what is empty", kind)
		}
	}
}
