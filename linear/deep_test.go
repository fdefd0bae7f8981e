package linear

import (
	"strconv"
	"testing"

	"exactchange/api"
)

// most is how many terms stand in one another at most.
const most = 1 << 16

// deep is x within as many others as there may be; step puts a term within some more, and is told a name that is new.
func deep(more int, step func(b api.Term, name string) api.Term) api.Term {
	b := variable("x")
	for i := range (most - 1) / more {
		b = step(b, "n"+strconv.Itoa(i))
	}
	return b
}

func token(kind int, name, token string, b api.Term) api.Term {
	return api.Term{Kind: kind, Name: name, Token: token, Args: []api.Term{b}}
}

func TestMuchWithin(t *testing.T) {
	x, five := variable("x"), whole(5)
	for _, c := range []struct {
		what string
		want api.Errno
		more int
		step func(b api.Term, name string) api.Term
	}{
		{"dup", api.ErrLeft, 1, func(b api.Term, name string) api.Term { return of(api.TmDup, "x", b) }},
		{"dup and drop", api.OK, 2, func(b api.Term, name string) api.Term {
			return of(api.TmDup, "x", of(api.TmDrop, "x", b))
		}},
		{"drop", api.ErrTwice, 1, func(b api.Term, name string) api.Term { return of(api.TmDrop, "x", b) }},
		{"let, in the second term", api.OK, 2, func(b api.Term, name string) api.Term {
			return of(api.TmLet, name, five, of(api.TmDrop, name, b))
		}},
		{"let, in the first term", api.OK, 1, func(b api.Term, name string) api.Term {
			return of(api.TmLet, name, b, variable(name))
		}},
		{"let, in the first term, where it is needed again", api.ErrTwice, 1, func(b api.Term, name string) api.Term {
			return of(api.TmLet, name, b, of(api.TmDrop, "x", variable(name)))
		}},
		{"let, in the first term, where others have it, too", api.ErrNone, 1, func(b api.Term, name string) api.Term {
			return of(api.TmLet, name, b, of(api.TmLet, "x", variable(name), variable("x")))
		}},
		{"let, in the first term, and more lets in the second one", api.OK, 1, func(b api.Term, name string) api.Term {
			return of(api.TmLet, name, b, of(api.TmLet, "m", variable(name), of(api.TmLet, "o", variable("m"), variable("o"))))
		}},
		{"let, in the first term, with a token", api.OK, 2, func(b api.Term, name string) api.Term {
			back := token(api.TmHold, name, "k", token(api.TmFree, "", "k", five))
			return of(api.TmLet, name, b, of(api.TmLet, "m"+name, back, variable("m"+name)))
		}},
		{"match", api.OK, 1, func(b api.Term, name string) api.Term {
			return match("x", api.Case{Body: x}, api.Case{Vars: []string{name}, Body: b})
		}},
		{"match, that takes", api.OK, 1, func(b api.Term, name string) api.Term {
			take := api.Term{Kind: api.TmTake, Name: "x", Vars: []string{name}, Args: []api.Term{variable(name)}}
			return match("x", api.Case{Vars: []string{name}, Body: take}, api.Case{Vars: []string{name}, Body: b})
		}},
		{"hold and free", api.OK, 3, func(b api.Term, name string) api.Term {
			return of(api.TmDup, "x", token(api.TmHold, "x", name, token(api.TmFree, "", name, b)))
		}},
		{"hold", api.ErrLeft, 2, func(b api.Term, name string) api.Term {
			return of(api.TmDup, "x", token(api.TmHold, "x", name, b))
		}},
		{"arguments", api.ErrForm, 1, func(b api.Term, name string) api.Term { return of(api.TmCall, "f", b) }},
	} {
		if got := Check(fn(deep(c.more, c.step), "x")); got != c.want {
			t.Errorf("%s: %d comes, not %d", c.what, got, c.want)
		}
	}
}
