package linear

import (
	"testing"

	"exactchange/api"
	"exactchange/text"
)

// body reads a term as it is written, and what counts in it: (dup x t), (drop x t), (take x (a b) t), (hold x k (a b) t), (use k (#1 a b)), (free k t); of nothing: (take x t), (hold x k t).
func body(t *testing.T, s string) api.Term {
	t.Helper()
	l, err := text.Parse("(fn f () " + s + ")")
	if err != api.OK {
		t.Fatalf("%q: %d", s, err)
	}
	return counted(l[0].Body)
}

// counted has calls of dup, drop and so on be what counts.
func counted(t api.Term) api.Term {
	for i, a := range t.Args {
		t.Args[i] = counted(a)
	}
	for i, c := range t.Cases {
		t.Cases[i].Body = counted(c.Body)
	}
	kind := map[string]int{"dup": api.TmDup, "drop": api.TmDrop, "take": api.TmTake, "hold": api.TmHold, "use": api.TmUse, "free": api.TmFree}[t.Name]
	if t.Kind != api.TmCall || kind == 0 {
		return t
	}
	out := api.Term{Kind: kind}
	first, rest := t.Args[0].Name, t.Args[1:]
	switch kind {
	case api.TmUse:
		return api.Term{Kind: kind, Token: first, N: rest[0].N, Args: rest[0].Args}
	case api.TmFree:
		out.Token = first
	default:
		out.Name = first
	}
	if kind == api.TmHold {
		out.Token, rest = rest[0].Name, rest[1:]
	}
	if len(rest) == 2 {
		out.Vars = append(out.Vars, rest[0].Name)
		for _, v := range rest[0].Args {
			out.Vars = append(out.Vars, v.Name)
		}
		rest = rest[1:]
	}
	out.Args = rest
	return out
}

func variable(name string) api.Term { return api.Term{Kind: api.TmVar, Name: name} }

func whole(n int) api.Term { return api.Term{Kind: api.TmInt, N: n} }

func of(kind int, name string, args ...api.Term) api.Term {
	return api.Term{Kind: kind, Name: name, Args: args}
}

func match(name string, cases ...api.Case) api.Term {
	return api.Term{Kind: api.TmMatch, Args: []api.Term{variable(name)}, Cases: cases}
}

func fn(b api.Term, params ...string) api.Fn {
	return api.Fn{Name: "f", Params: params, Body: b}
}

// found holds what Check says of a body, of those parameters, against what it must say.
func found(t *testing.T, want api.Errno, b api.Term, params ...string) {
	t.Helper()
	if got := Check(fn(b, params...)); got != want {
		t.Errorf("%s of %q: %d comes, not %d", text.Term(b), params, got, want)
	}
}

// row is a body as it is written, and what must be said of it.
type row struct {
	s    string
	want api.Errno
}

// foundAll is found for each row, of functions of x and y.
func foundAll(t *testing.T, l []row) {
	t.Helper()
	for _, r := range l {
		if got := Check(fn(body(t, r.s), "x", "y")); got != r.want {
			t.Errorf("%s: %d comes, not %d", r.s, got, r.want)
		}
	}
}
