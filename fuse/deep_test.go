package fuse

import (
	"strconv"
	"testing"

	"exactchange/api"
	"exactchange/scope"
)

// most is how many terms stand in one another at most.
const most = 1 << 16

// deep is 5 within as many others as there may be; step puts a term within some more, and is told their number.
func deep(more int, step func(b api.Term, i int) api.Term) api.Term {
	b := whole(5)
	for i := range (most - 1) / more {
		b = step(b, i)
	}
	return b
}

func numbered(i int) string { return "n" + strconv.Itoa(i) }

func TestMuchWithin(t *testing.T) {
	ab := names("a", "b")
	// A match put around another one has that one's name in its case.
	opened := func(counts func(name string, vars []string, b api.Term) api.Term) func(b api.Term, i int) api.Term {
		return func(b api.Term, i int) api.Term {
			name, vars := numbered(i+1), names(numbered(i), "z")
			return match(name, api.Case{Tag: 1, Vars: vars, Body: counts(name, vars, b)})
		}
	}
	given := deep(3, opened(func(name string, vars []string, b api.Term) api.Term { return dup(vars[0], drop(name, b)) }))
	want := deep(3, opened(func(name string, vars []string, b api.Term) api.Term { return take(name, vars, drop("z", b)) }))
	comesDeep(t, given, want)
	steps(t, given, (most-1)/3*2)
	steps(t, want, (most-1)/3*2)

	for _, kind := range []int{api.TmCon, api.TmCall, api.TmLet, api.TmDup, api.TmDrop, api.TmTake, api.TmHold, api.TmUse, api.TmFree} {
		same := deep(1, func(b api.Term, i int) api.Term { return of(kind, b) })
		comesDeep(t, same, same)
		counted := 0
		if kind >= api.TmDup {
			counted = most - 1
		}
		steps(t, same, counted)
	}

	dups := func(b api.Term, i int) api.Term { return dup("a", b) }
	comesDeep(t, one(ab, deep(1, dups)), one(ab, deep(1, dups)))
	drops := func(b api.Term, i int) api.Term { return drop("x", b) }
	comesDeep(t, one(ab, drop("x", deep(1, drops))), one(ab, take("x", ab, drop("a", drop("b", deep(1, drops))))))
}

func TestManyNamesOfACase(t *testing.T) {
	var vars []string
	given, want := drop("x", whole(5)), whole(5)
	for i := range most / 2 {
		vars = append(vars, numbered(2*i), numbered(2*i+1))
	}
	for i := len(vars) - 2; i >= 0; i -= 2 {
		given, want = dup(vars[i], given), drop(vars[i+1], want)
	}
	comesDeep(t, one(vars, given), one(vars, take("x", vars, want)))
}

// comesDeep is comes, without writing what is far too long.
func comesDeep(t *testing.T, given, want api.Term) {
	t.Helper()
	if !scope.Same(Term(given), want) {
		t.Error("another one comes")
	}
	if got := All([]api.Fn{{Body: given}}); !scope.Same(got[0].Body, want) {
		t.Error("another body comes")
	}
}
