package fuse

import (
	"testing"

	"exactchange/api"
	"exactchange/own"
	"exactchange/plain"
	"exactchange/scope"
	"exactchange/text"
)

// counting reads a right program, and has it be plain and count.
func counting(t *testing.T, s string) []api.Fn {
	t.Helper()
	l, err := text.Parse(s)
	if err != api.OK {
		t.Fatalf("%q: %d", s, err)
	}
	if err := scope.Check(l, text.Name); err != api.OK {
		t.Fatalf("%q is not right: %d", s, err)
	}
	return own.All(plain.All(l))
}

func variable(name string) api.Term { return api.Term{Kind: api.TmVar, Name: name} }

func whole(n int) api.Term { return api.Term{Kind: api.TmInt, N: n} }

// of is a term of that kind with a number, a name and a token, whether or not its kind has them.
func of(kind int, args ...api.Term) api.Term {
	return api.Term{Kind: kind, N: 1, Name: "n", Token: "k", Args: args}
}

func con(names ...string) api.Term {
	t := api.Term{Kind: api.TmCon, N: 3}
	for _, name := range names {
		t.Args = append(t.Args, variable(name))
	}
	return t
}

func dup(name string, args ...api.Term) api.Term {
	return api.Term{Kind: api.TmDup, Name: name, Args: args}
}

func drop(name string, args ...api.Term) api.Term {
	return api.Term{Kind: api.TmDrop, Name: name, Args: args}
}

func take(name string, vars []string, args ...api.Term) api.Term {
	return api.Term{Kind: api.TmTake, Name: name, Vars: vars, Args: args}
}

func match(name string, cases ...api.Case) api.Term {
	return api.Term{Kind: api.TmMatch, Args: []api.Term{variable(name)}, Cases: cases}
}

// one is a match of x with one case, of constructor 1.
func one(vars []string, body api.Term) api.Term {
	return match("x", api.Case{Tag: 1, Vars: vars, Body: body})
}

func names(l ...string) []string { return l }

// comes holds what Term says of given against what must come, in all fields.
func comes(t *testing.T, given, want api.Term) {
	t.Helper()
	if got := Term(given); !scope.Same(got, want) {
		t.Errorf("%s: %s comes, not %s", text.Term(given), text.Term(got), text.Term(want))
	}
}

// stays holds that Term leaves given as it is.
func stays(t *testing.T, given api.Term) {
	t.Helper()
	comes(t, given, scope.Own(given))
}
