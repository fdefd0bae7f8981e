package reuse

import (
	"strconv"
	"testing"

	"exactchange/api"
	"exactchange/scope"
)

// most is how many terms stand in one another at most.
const most = 1 << 16

// fewer are so many takes, of which each looks through all within, that a test does not take long.
const fewer = 1 << 12

// deep is b within so many steps; step puts a term within some more, and is told how many steps are outside it.
func deep(b api.Term, steps int, step func(b api.Term, outside int) api.Term) api.Term {
	for i := steps - 1; i >= 0; i-- {
		b = step(b, i)
	}
	return b
}

func token(outside int) string { return "k" + strconv.Itoa(outside+1) }

func TestMuchWithin(t *testing.T) {
	a, five, made := vars("a"), whole(5), con("a")
	// what is made ahead of the next take, and behind what stands in a first term
	comesDeep(t, "lets",
		deep(five, most/2-1, func(b api.Term, i int) api.Term { return take("x", a, of(api.TmLet, made, b)) }),
		deep(five, most/2-1, func(b api.Term, i int) api.Term { return hold("x", token(i), a, of(api.TmLet, use(token(i), "a"), b)) }))
	comesDeep(t, "first terms",
		deep(five, most/2-1, func(b api.Term, i int) api.Term { return take("x", a, of(api.TmLet, b, made)) }),
		deep(five, most/2-1, func(b api.Term, i int) api.Term { return hold("x", token(i), a, of(api.TmLet, b, use(token(i), "a"))) }))
	// one that looks far
	counts := func(b api.Term, i int) api.Term {
		return of([]int{api.TmDup, api.TmDrop, api.TmHold, api.TmFree}[i%4], b)
	}
	comesDeep(t, "what counts", take("x", a, deep(made, most-2, counts)), hold("x", "k1", a, deep(use("k1", "a"), most-2, counts)))
	comesDeep(t, "what counts, and nothing is made", take("x", a, deep(five, most-2, counts)), take("x", a, deep(five, most-2, counts)))
	cases := func(left, right api.Term) func(b api.Term, i int) api.Term {
		return func(b api.Term, i int) api.Term {
			return match("a", api.Case{Tag: 1, Body: left}, api.Case{Tag: 2, Body: b}, api.Case{Tag: 3, Body: right})
		}
	}
	comesDeep(t, "cases", take("x", a, deep(made, most-2, cases(made, five))), hold("x", "k1", a, deep(use("k1", "a"), most-2, cases(use("k1", "a"), free("k1", five)))))
	comesDeep(t, "cases, where the innermost alone has place", take("x", a, deep(made, most-2, cases(five, five))), hold("x", "k1", a, deep(use("k1", "a"), most-2, cases(free("k1", five), free("k1", five)))))
	comesDeep(t, "cases without place", take("x", a, deep(five, most-2, cases(five, five))), take("x", a, deep(five, most-2, cases(five, five))))
	for _, kind := range []int{api.TmCon, api.TmCall, api.TmPrim, api.TmLet, api.TmMatch, api.TmDup, api.TmDrop, api.TmHold, api.TmUse, api.TmFree} {
		same := deep(five, most-1, func(b api.Term, i int) api.Term { return of(kind, b) })
		comesDeep(t, "kind "+strconv.Itoa(kind), same, same)
	}
}

func TestManyTakesWithin(t *testing.T) {
	a, five, made := vars("a"), whole(5), con("a")
	takes := func(b api.Term, i int) api.Term { return take("x", a, b) }
	comesDeep(t, "without place", deep(five, fewer, takes), deep(five, fewer, takes))
	comesDeep(t, "with one", deep(made, fewer, takes), hold("x", "k1", a, deep(use("k1", "a"), fewer-1, takes)))
	// as many are made as are taken, the outermost ones first
	comesDeep(t, "with as many",
		deep(deep(five, fewer, func(b api.Term, i int) api.Term { return of(api.TmLet, made, b) }), fewer, takes),
		deep(deep(five, fewer, func(b api.Term, i int) api.Term { return of(api.TmLet, use(token(i), "a"), b) }), fewer, func(b api.Term, i int) api.Term { return hold("x", token(i), a, b) }))
	// the outermost one has all that is made
	comesDeep(t, "in cases",
		deep(made, fewer, func(b api.Term, i int) api.Term {
			return take("x", a, match("a", api.Case{Tag: 1, Body: made}, api.Case{Tag: 2, Body: b}))
		}),
		deep(use("k1", "a"), fewer, func(b api.Term, i int) api.Term {
			b = match("a", api.Case{Tag: 1, Body: use("k1", "a")}, api.Case{Tag: 2, Body: b})
			if i == 0 {
				return hold("x", "k1", a, b)
			}
			return take("x", a, b)
		}))
}

// comesDeep is comes, without writing what is far too long.
func comesDeep(t *testing.T, what string, given, want api.Term) {
	t.Helper()
	if got := Fn(fn(given)).Body; !scope.Same(got, want) {
		t.Errorf("%s: another one comes", what)
	}
}
