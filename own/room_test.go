package own

import (
	"reflect"
	"testing"

	"exactchange/api"
	"exactchange/scope"
	"exactchange/text"
)

func spareNames(l []string) []string { return append(l, "spare")[:len(l)] }

// spare gives each list in t room behind it, with litter there.
func spare(t api.Term) api.Term {
	args := make([]api.Term, 0, len(t.Args)+1)
	for _, a := range t.Args {
		args = append(args, spare(a))
	}
	cases := make([]api.Case, 0, len(t.Cases)+1)
	for _, c := range t.Cases {
		cases = append(cases, api.Case{Tag: c.Tag, Vars: spareNames(c.Vars), Body: spare(c.Body)})
	}
	t.Vars = spareNames(t.Vars)
	t.Args = append(args, variable("spare"))[:len(args)]
	t.Cases = append(cases, api.Case{Tag: 9})[:len(cases)]
	return t
}

// roomy is everything, with spare room behind all of its lists.
func roomy(t *testing.T) api.Fn {
	f := program(t, everything)[0]
	f.Params = spareNames(f.Params)
	f.Body = spare(f.Body)
	return f
}

// counted is everything when it counts, with a room that is used again, and spare room behind all of its lists.
func counted(t *testing.T) api.Term {
	use := api.Term{Kind: api.TmUse, N: 2, Token: "k1", Args: []api.Term{variable("a")}}
	hold := api.Term{Kind: api.TmHold, Name: "v1", Token: "k1", Vars: []string{"a"}, Args: []api.Term{use}}
	return spare(of(api.TmCon, Fn(program(t, everything)[0]).Body, hold))
}

// told is t with the spare room of its lists told, too.
func told(t api.Term) api.Term {
	var args []api.Term
	for _, a := range t.Args[:cap(t.Args)] {
		args = append(args, told(a))
	}
	var cases []api.Case
	for _, c := range t.Cases[:cap(t.Cases)] {
		cases = append(cases, api.Case{Tag: c.Tag, Vars: c.Vars[:cap(c.Vars)], Body: told(c.Body)})
	}
	t.Vars, t.Args, t.Cases = t.Vars[:cap(t.Vars)], args, cases
	return t
}

func sameRoom(a, b api.Fn) bool {
	return reflect.DeepEqual(a.Params[:cap(a.Params)], b.Params[:cap(b.Params)]) && reflect.DeepEqual(told(a.Body), told(b.Body))
}

// spoil writes over all that t can reach, spare room too.
func spoil(t *api.Term) {
	spoilNames(t.Vars)
	for i := range t.Args[:cap(t.Args)] {
		spoil(&t.Args[:cap(t.Args)][i])
	}
	for i := range t.Cases[:cap(t.Cases)] {
		c := &t.Cases[:cap(t.Cases)][i]
		spoilNames(c.Vars)
		spoil(&c.Body)
		c.Tag = -1
	}
	t.Kind, t.N, t.Name, t.Token = -1, -1, "spoilt", "spoilt"
}

func spoilNames(l []string) {
	for i := range l[:cap(l)] {
		l[:cap(l)][i] = "spoilt"
	}
}

// apart holds that neither what is handed in nor what is answered changes with the other one.
func apart(t *testing.T, what string, of func(f api.Fn) api.Fn) {
	t.Helper()
	given, want := roomy(t), of(roomy(t))
	got := of(given)
	if !sameRoom(given, roomy(t)) {
		t.Errorf("%s: what was handed in is changed: %#v", what, given)
	}
	spoilNames(given.Params)
	spoil(&given.Body)
	if !reflect.DeepEqual(got, want) {
		t.Errorf("%s: %s is left of what was answered", what, text.Term(got.Body))
	}
	given = roomy(t)
	got = of(given)
	spoilNames(got.Params)
	spoil(&got.Body)
	if !sameRoom(given, roomy(t)) {
		t.Errorf("%s: what was handed in is changed with what was answered: %#v", what, given)
	}
}

func TestWhatIsHandedInIsOnlyRead(t *testing.T) {
	apart(t, "Fn", Fn)
	apart(t, "All", func(f api.Fn) api.Fn { return All([]api.Fn{f})[0] })
	apart(t, "Term", func(f api.Fn) api.Fn { return api.Fn{Body: Term(f.Body, f.Params)} })
	apart(t, "Erase", func(f api.Fn) api.Fn { return api.Fn{Body: Erase(f.Body)} })
}

func TestWhatIsErasedIsOnlyRead(t *testing.T) {
	given := counted(t)
	got, want := Erase(given), Erase(counted(t))
	if !reflect.DeepEqual(told(given), told(counted(t))) {
		t.Errorf("what was handed in is changed: %#v", given)
	}
	spoil(&given)
	if !reflect.DeepEqual(got, want) {
		t.Errorf("%s is left of what was answered", text.Term(got))
	}
	given = counted(t)
	got = Erase(given)
	spoil(&got)
	if !reflect.DeepEqual(told(given), told(counted(t))) {
		t.Errorf("what was handed in is changed with what was answered: %#v", given)
	}
}

func TestOwnedNamesMayHaveRoomBehindThem(t *testing.T) {
	owned := []string{"x", "y", "spare", "spare", "spare"}
	Term(body(t, "(let a (#1 x) (match x (#1 (b c) (#2 a b c y))))"), owned[:2])
	if !reflect.DeepEqual(owned, []string{"x", "y", "spare", "spare", "spare"}) {
		t.Errorf("%q is left", owned)
	}
}

// lists calls met with where each list that t can reach begins.
func lists(t *api.Term, met func(first any)) {
	if vars := t.Vars[:cap(t.Vars)]; len(vars) > 0 {
		met(&vars[0])
	}
	args, cases := t.Args[:cap(t.Args)], t.Cases[:cap(t.Cases)]
	if len(args) > 0 {
		met(&args[0])
	}
	for i := range args {
		lists(&args[i], met)
	}
	if len(cases) > 0 {
		met(&cases[0])
	}
	for i := range cases {
		if vars := cases[i].Vars[:cap(cases[i].Vars)]; len(vars) > 0 {
			met(&vars[0])
		}
		lists(&cases[i].Body, met)
	}
}

func TestNoListsOfAnAnswerShare(t *testing.T) {
	f := program(t, everything)[0]
	f.Body = of(api.TmLet, f.Body, f.Body)
	got := All([]api.Fn{f, f})
	again := counted(t)
	erased := Erase(of(api.TmCon, again, again))
	seen := map[any]int{}
	once := func(first any) {
		if seen[first]++; seen[first] > 1 {
			t.Errorf("a list stands at two places of %s, or of %s", text.Print(got), text.Term(erased))
		}
	}
	lists(&got[0].Body, once)
	lists(&got[1].Body, once)
	lists(&erased, once)
	if &got[0].Params[0] == &got[1].Params[0] || len(seen) == 0 {
		t.Error("the parameters stand at two places, or nothing is told")
	}
}

func TestAnswersHangOnArgumentsAlone(t *testing.T) {
	f := program(t, programs()[6])[0]
	first, erased := Fn(f), Erase(Fn(f).Body)
	for range 20 {
		if got := Fn(f); !reflect.DeepEqual(got, first) {
			t.Fatalf("%s comes, and then %s", text.Term(first.Body), text.Term(got.Body))
		}
		if got := Erase(first.Body); !scope.Same(got, erased) {
			t.Fatalf("%s comes, and then %s", text.Term(erased), text.Term(got))
		}
	}
}
