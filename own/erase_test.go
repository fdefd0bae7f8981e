package own

import (
	"math"
	"testing"

	"exactchange/api"
	"exactchange/scope"
	"exactchange/text"
)

// marked has something in all fields but Args and Cases.
func marked(kind int, args ...api.Term) api.Term {
	return api.Term{Kind: kind, N: 5, Name: "n", Token: "k", Vars: []string{"a", "b"}, Args: args}
}

// counting are the kinds that go when they have one argument.
func counting() []int {
	return []int{api.TmDup, api.TmDrop, api.TmTake, api.TmHold, api.TmFree}
}

// staying are kinds that stay as they are, some of which there are not.
func staying() []int {
	return []int{math.MinInt, -1, 0, api.TmVar, api.TmInt, api.TmCon, api.TmCall, api.TmPrim, api.TmLet, api.TmMatch, 14, math.MaxInt}
}

// erasedTo holds what is left of given against what must be.
func erasedTo(t *testing.T, given, want api.Term) {
	t.Helper()
	if got := Erase(given); !scope.Same(got, want) {
		t.Errorf("%#v: %#v is left, not %#v", given, got, want)
	}
}

func TestEraseTakesAwayWhatCounts(t *testing.T) {
	x := variable("x")
	for _, kind := range counting() {
		erasedTo(t, marked(kind, x), x)
		erasedTo(t, marked(kind, marked(api.TmCall, x, x)), marked(api.TmCall, x, x))
		for _, inner := range counting() {
			erasedTo(t, marked(kind, marked(inner, x)), x)
			erasedTo(t, marked(kind, marked(inner)), marked(inner))
		}
		c := marked(kind, x)
		c.Cases = []api.Case{{Body: variable("y")}}
		erasedTo(t, c, x)
	}
}

func TestEraseLeavesWhatHasNotOneArgument(t *testing.T) {
	x := variable("x")
	for _, kind := range counting() {
		erasedTo(t, marked(kind), marked(kind))
		erasedTo(t, marked(kind, x, x), marked(kind, x, x))
		erasedTo(t, marked(kind, marked(kind, x), marked(kind, x), x), marked(kind, x, x, x))
	}
}

func TestEraseLeavesOtherKinds(t *testing.T) {
	x := variable("x")
	for _, kind := range staying() {
		for _, args := range [][]api.Term{nil, {x}, {x, x}} {
			erasedTo(t, marked(kind, args...), marked(kind, args...))
		}
	}
	erasedTo(t, api.Term{}, api.Term{})
}

func TestEraseLooksAtAllWithin(t *testing.T) {
	x, y := variable("x"), variable("y")
	for _, kind := range staying() {
		for _, inner := range counting() {
			given, want := marked(kind, y, marked(inner, x)), marked(kind, y, x)
			given.Cases = []api.Case{{Tag: 2, Vars: []string{"c"}, Body: y}, {Tag: 3, Vars: []string{"d"}, Body: marked(inner, marked(inner, given))}}
			want.Cases = []api.Case{{Tag: 2, Vars: []string{"c"}, Body: y}, {Tag: 3, Vars: []string{"d"}, Body: want}}
			erasedTo(t, given, want)
		}
	}
}

func TestEraseHasNoRooms(t *testing.T) {
	x := variable("x")
	use := func(args ...api.Term) api.Term {
		return api.Term{Kind: api.TmUse, N: 3, Token: "k1", Args: args}
	}
	con := func(args ...api.Term) api.Term { return api.Term{Kind: api.TmCon, N: 3, Args: args} }
	erasedTo(t, use(), con())
	erasedTo(t, use(x), con(x))
	erasedTo(t, use(x, use(x), marked(api.TmDrop, x)), con(x, con(x), x))
	hold := api.Term{Kind: api.TmHold, Name: "x", Token: "k1", Vars: []string{"a", "b"}, Args: []api.Term{use(variable("b"), variable("a"))}}
	free := api.Term{Kind: api.TmFree, Token: "k1", Args: []api.Term{variable("a")}}
	m := api.Term{Kind: api.TmMatch, Args: []api.Term{x}, Cases: []api.Case{{Tag: 1, Vars: []string{"a", "b"}, Body: hold}, {Tag: 0, Body: free}}}
	if got := text.Term(Erase(m)); got != "(match x (#1 (a b) (#3 b a)) (#0 () a))" {
		t.Errorf("%s is left", got)
	}
}

func TestEraseOfMuchWithin(t *testing.T) {
	x := variable("x")
	given, want := x, x
	for i := range 1<<16 - 2 {
		if i%3 == 0 {
			given, want = of(api.TmCon, given), of(api.TmCon, want)
		} else {
			given = of(counting()[i%5], given)
		}
	}
	erasedTo(t, given, want)
}
