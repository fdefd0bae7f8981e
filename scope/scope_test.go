package scope

import (
	"reflect"
	"slices"
	"strconv"
	"testing"

	"exactchange/api"
	"exactchange/text"
)

func variable(name string) api.Term { return api.Term{Kind: api.TmVar, Name: name} }

func whole(n int) api.Term { return api.Term{Kind: api.TmInt, N: n} }

func con(n int, args ...api.Term) api.Term { return api.Term{Kind: api.TmCon, N: n, Args: args} }

func let(name string, args ...api.Term) api.Term {
	return api.Term{Kind: api.TmLet, Name: name, Args: args}
}

func match(a api.Term, cases ...api.Case) api.Term {
	return api.Term{Kind: api.TmMatch, Args: []api.Term{a}, Cases: cases}
}

// program reads s.
func program(t *testing.T, s string) []api.Fn {
	t.Helper()
	l, err := text.Parse(s)
	if err != api.OK {
		t.Fatalf("%q: %d", s, err)
	}
	return l
}

// body reads s as the term of a function.
func body(t *testing.T, s string) api.Term {
	t.Helper()
	return program(t, "(fn f () "+s+")")[0].Body
}

// full has something in all fields, at all places.
func full() api.Term {
	inner := api.Term{Kind: api.TmTake, Name: "p", Vars: []string{"c", "d"}, Args: []api.Term{variable("c")}}
	return api.Term{
		Kind: 11, N: 5, Name: "n", Token: "k", Vars: []string{"a", "b"}, Args: []api.Term{inner, whole(7)},
		Cases: []api.Case{{Tag: 3, Vars: []string{"x", "y"}, Body: con(2, variable("x"))}, {Tag: 4, Body: whole(1)}},
	}
}

// spoil writes over all that t can reach, spare room too.
func spoil(t *api.Term) {
	spoilNames(t.Vars)
	for i := range t.Args[:cap(t.Args)] {
		spoil(&t.Args[:cap(t.Args)][i])
	}
	for i := range t.Cases[:cap(t.Cases)] {
		c := &t.Cases[:cap(t.Cases)][i]
		spoilNames(c.Vars)
		spoil(&c.Body)
		c.Tag = -1
	}
	t.Kind, t.N, t.Name, t.Token = -1, -1, "spoilt", "spoilt"
}

func spoilNames(l []string) {
	for i := range l[:cap(l)] {
		l[:cap(l)][i] = "spoilt"
	}
}

func TestOwnIsACopyOfAll(t *testing.T) {
	given := full()
	got := Own(given)
	if !reflect.DeepEqual(got, full()) {
		t.Errorf("%#v comes", got)
	}
	spoil(&given)
	if !reflect.DeepEqual(got, full()) {
		t.Errorf("what was copied is changed with what was handed in: %#v", got)
	}
	given = full()
	got = Own(given)
	spoil(&got)
	if !reflect.DeepEqual(given, full()) {
		t.Errorf("what was handed in is changed with its copy: %#v", given)
	}
	if !Same(Own(api.Term{}), api.Term{}) {
		t.Error("the zero term has another copy")
	}
}

func TestOwnLeavesSpareRoomAlone(t *testing.T) {
	spare := []string{"a", "b", "c"}
	terms := []api.Term{variable("x"), variable("y")}
	for _, n := range []int{0, 1} {
		got := Own(api.Term{Vars: spare[:n], Args: terms[:n]})
		_ = append(got.Vars, "z")
		_ = append(got.Args, whole(1))
	}
	if !slices.Equal(spare, []string{"a", "b", "c"}) || !Same(terms[1], variable("y")) || !Same(terms[0], variable("x")) {
		t.Errorf("spare room is changed: %q, %v", spare, terms)
	}
}

func TestListsOfACopyAreApart(t *testing.T) {
	one := []string{"a"}
	args := []api.Term{variable("a")}
	got := Own(api.Term{Kind: api.TmCon, Args: []api.Term{{Vars: one, Args: args}, {Vars: one, Args: args}}})
	got.Args[0].Vars[0] = "spoilt"
	got.Args[0].Args[0].Name = "spoilt"
	if got.Args[1].Vars[0] != "a" || got.Args[1].Args[0].Name != "a" {
		t.Error("two lists of one answer share their memory")
	}
}

func TestFnsAreCopies(t *testing.T) {
	two := func() []api.Fn {
		return []api.Fn{{Name: "f", Params: []string{"x", "y"}, Body: full()}, {Name: "g", Body: whole(2)}}
	}
	given := two()
	got := Fns(given)
	if !reflect.DeepEqual(got, two()) {
		t.Errorf("%#v comes", got)
	}
	spoilNames(got[0].Params)
	spoil(&got[0].Body)
	got[1].Name = "spoilt"
	if !reflect.DeepEqual(given, two()) {
		t.Errorf("what was handed in is changed with its copy: %#v", given)
	}
	if len(Fns(nil)) != 0 || len(Fns([]api.Fn{})) != 0 {
		t.Error("of no functions some come")
	}
}

func TestSameHoldsAllAgainstEachOther(t *testing.T) {
	if !Same(full(), full()) || !Same(api.Term{}, api.Term{}) {
		t.Error("the same is not the same")
	}
	for i, change := range []func(t *api.Term){
		func(t *api.Term) { t.Kind = api.TmTake },
		func(t *api.Term) { t.N = 6 },
		func(t *api.Term) { t.Name = "m" },
		func(t *api.Term) { t.Token = "" },
		func(t *api.Term) { t.Vars[1] = "c" },
		func(t *api.Term) { t.Vars = t.Vars[:1] },
		func(t *api.Term) { t.Vars[0], t.Vars[1] = t.Vars[1], t.Vars[0] },
		func(t *api.Term) { t.Args[0].Args[0].Name = "d" },
		func(t *api.Term) { t.Args = t.Args[:1] },
		func(t *api.Term) { t.Args[1].N = 8 },
		func(t *api.Term) { t.Cases[0].Tag = 4 },
		func(t *api.Term) { t.Cases[0].Vars[0] = "z" },
		func(t *api.Term) { t.Cases[1].Vars = []string{""} },
		func(t *api.Term) { t.Cases[0].Body.Args[0].Name = "y" },
		func(t *api.Term) { t.Cases[0], t.Cases[1] = t.Cases[1], t.Cases[0] },
		func(t *api.Term) { t.Cases = t.Cases[:1] },
	} {
		other := full()
		change(&other)
		if Same(full(), other) || Same(other, full()) {
			t.Errorf("change %d is not seen", i)
		}
	}
}

func TestNilIsEmptyForSame(t *testing.T) {
	empty := api.Term{Kind: 3, Vars: []string{}, Args: []api.Term{}, Cases: []api.Case{}}
	if !Same(empty, con(0)) || !Same(con(0), empty) {
		t.Error("nil and empty lists are held for unlike")
	}
	if !Same(match(empty, api.Case{Vars: []string{}}), match(con(0), api.Case{})) {
		t.Error("nil and empty lists within are held for unlike")
	}
}

func TestSizeCountsAllWithin(t *testing.T) {
	for _, c := range []struct {
		s    string
		want int
	}{
		{"x", 1}, {"5", 1}, {"(#1)", 1}, {"(+ x 1)", 3}, {"(g x (h 1 2) 3)", 6}, {"(let x 1 x)", 3},
		{"(match x)", 2}, {"(match (g x) (#0 () 1) (#1 (a b c) (+ a b)))", 7},
	} {
		if got := Size(body(t, c.s)); got != c.want {
			t.Errorf("%s: %d comes, not %d", c.s, got, c.want)
		}
	}
	if got := Size(full()); got != 7 {
		t.Errorf("of a full term %d comes", got)
	}
	if got := Size(api.Term{}); got != 1 {
		t.Errorf("of a zero term %d comes", got)
	}
	if got := Size(api.Term{Kind: -4, Args: []api.Term{{}, {}}}); got != 3 {
		t.Errorf("of a term of no kind %d comes", got)
	}
}

func TestFreeTellsWhatIsNeeded(t *testing.T) {
	for _, c := range []struct {
		s    string
		want []string
	}{
		{"x", []string{"x"}},
		{"5", nil},
		{"(let x y (let z x w))", []string{"y", "w"}},
		{"(g z y z x y)", []string{"z", "y", "x"}},
		{"(f f)", []string{"f"}},
		{"(let x x x)", []string{"x"}},
		{"(let x 1 x)", nil},
		{"(let x 1 (+ x y))", []string{"y"}},
		{"(+ (let x 1 x) x)", []string{"x"}},
		{"(let x (let x y x) (let y x (+ x y)))", []string{"y"}},
		{"(+ (let x 1 (+ x y)) (+ x y))", []string{"y", "x"}},
		{"(match x (#1 (x y) (+ x y)) (#2 (y) (+ y x)))", []string{"x"}},
		{"(match 1 (#1 (a) (+ a b)) (#2 (b) (+ b a)))", []string{"b", "a"}},
		{"(match 1 (#1 (a) (match a (#1 (a b) (#3 a b c)))) (#2 () (#3 c b a)))", []string{"c", "b", "a"}},
		{"(match 1 (#1 (a a) a) (#2 () 1))", nil},
		{"(match 1 (#1 (a a) a) (#2 () a))", []string{"a"}},
	} {
		if got := Free(body(t, c.s)); !slices.Equal(got, c.want) {
			t.Errorf("%s: %q comes, not %q", c.s, got, c.want)
		}
	}
}

func TestFreeOfEachKind(t *testing.T) {
	// Each has a name, arguments and cases, whether its kind has them or not.
	of := func(kind int, args ...api.Term) []string {
		return Free(api.Term{Kind: kind, Name: "n", Args: args, Cases: []api.Case{{Vars: []string{"q"}, Body: con(0, variable("q"), variable("w"))}}})
	}
	for kind := -1; kind <= 15; kind++ {
		want := []string{"x", "n", "w"}
		switch kind {
		case api.TmVar:
			want = []string{"n"}
		case api.TmLet:
			want = []string{"x"}
		case api.TmDup, api.TmDrop, api.TmTake, api.TmHold:
			want = []string{"n", "x", "w"}
		}
		if got := of(kind, variable("x"), variable("n")); !slices.Equal(got, want) {
			t.Errorf("kind %d: %q comes, not %q", kind, got, want)
		}
	}
	for _, args := range [][]api.Term{{variable("n")}, {variable("n"), variable("n"), variable("n")}} {
		if got := of(api.TmLet, args...); !slices.Equal(got, []string{"n", "w"}) {
			t.Errorf("a let of %d arguments: %q comes", len(args), got)
		}
	}
	if got := of(api.TmLet); !slices.Equal(got, []string{"w"}) {
		t.Errorf("a let of no arguments: %q comes", got)
	}
}

func TestFreeKeepsToItsWordsOfTermsThatCount(t *testing.T) {
	take := api.Term{Kind: api.TmTake, Name: "x", Vars: []string{"a"}, Args: []api.Term{con(1, variable("a"), variable("x"))}}
	if got := Free(take); !slices.Equal(got, []string{"x", "a"}) {
		t.Errorf("take: %q comes", got)
	}
	use := api.Term{Kind: api.TmUse, Name: "x", Token: "k", Args: []api.Term{variable("a")}}
	if got := Free(use); !slices.Equal(got, []string{"a"}) {
		t.Errorf("use: %q comes", got)
	}
	if got := Free(let("x", variable("y"), api.Term{Kind: api.TmDrop, Name: "x", Args: []api.Term{variable("z")}})); !slices.Equal(got, []string{"y", "z"}) {
		t.Errorf("drop in a let: %q comes", got)
	}
}

// deep is lets in lets, each of a name of its own, all of which the innermost term needs.
func deep(n int) api.Term {
	t := con(0)
	for i := range n {
		t.Args = append(t.Args, variable("x"+strconv.Itoa(i)))
	}
	for i := range n {
		t = let("x"+strconv.Itoa(i), variable("y"+strconv.Itoa(i)), t)
	}
	return t
}

func TestDeepTerms(t *testing.T) {
	const n = 1<<16 - 2
	d := deep(n)
	if got := Size(d); got != 3*n+1 {
		t.Errorf("%d terms come", got)
	}
	if got := Free(d); len(got) != n || got[0] != "y"+strconv.Itoa(n-1) || got[n-1] != "y0" {
		t.Errorf("%d names come", len(got))
	}
	if !Same(d, Own(d)) {
		t.Error("a deep copy is another one")
	}
	if got := Check([]api.Fn{{Name: "f", Body: d}}, text.Name); got != api.ErrMuch {
		t.Errorf("%d comes", got)
	}
}

func TestAnswersHangOnArgumentsAlone(t *testing.T) {
	d := deep(50)
	first := Free(d)
	first[0] = "spoilt"
	for range 20 {
		if got := Free(d); got[0] != "y49" || !slices.Equal(got[1:], first[1:]) {
			t.Fatalf("%q comes, then %q", first, got)
		}
	}
}
