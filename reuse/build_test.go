package reuse

import (
	"testing"

	"exactchange/api"
	"exactchange/fuse"
	"exactchange/own"
	"exactchange/plain"
	"exactchange/scope"
	"exactchange/text"
)

// fused reads a right program, and has it be plain, count, and take.
func fused(t *testing.T, s string) []api.Fn {
	t.Helper()
	l, err := text.Parse(s)
	if err != api.OK {
		t.Fatalf("%q: %d", s, err)
	}
	if err := scope.Check(l, text.Name); err != api.OK {
		t.Fatalf("%q is not right: %d", s, err)
	}
	return fuse.All(own.All(plain.All(l)))
}

// body reads a term as it is written, and what counts in it: (dup x t), (drop x t), (take x (a b) t), (hold x k (a b) t), (use k (#1 a b)), (free k t); of nothing: (take x t), (hold x k t).
func body(t *testing.T, s string) api.Term {
	t.Helper()
	l, err := text.Parse("(fn f () " + s + ")")
	if err != api.OK {
		t.Fatalf("%q: %d", s, err)
	}
	return counted(l[0].Body)
}

// counted has calls of dup, drop and so on be what counts.
func counted(t api.Term) api.Term {
	for i, a := range t.Args {
		t.Args[i] = counted(a)
	}
	for i, c := range t.Cases {
		t.Cases[i].Body = counted(c.Body)
	}
	kind := map[string]int{"dup": api.TmDup, "drop": api.TmDrop, "take": api.TmTake, "hold": api.TmHold, "use": api.TmUse, "free": api.TmFree}[t.Name]
	if t.Kind != api.TmCall || kind == 0 {
		return t
	}
	out := api.Term{Kind: kind}
	first, rest := t.Args[0].Name, t.Args[1:]
	switch kind {
	case api.TmUse:
		return api.Term{Kind: kind, Token: first, N: rest[0].N, Args: rest[0].Args}
	case api.TmFree:
		out.Token = first
	default:
		out.Name = first
	}
	if kind == api.TmHold {
		out.Token, rest = rest[0].Name, rest[1:]
	}
	if len(rest) == 2 {
		out.Vars = append(out.Vars, rest[0].Name)
		for _, v := range rest[0].Args {
			out.Vars = append(out.Vars, v.Name)
		}
		rest = rest[1:]
	}
	out.Args = rest
	return out
}

func fn(b api.Term, params ...string) api.Fn { return api.Fn{Name: "f", Params: params, Body: b} }

func variable(name string) api.Term { return api.Term{Kind: api.TmVar, Name: name} }

func whole(n int) api.Term { return api.Term{Kind: api.TmInt, N: n} }

// of is a term of that kind with a number, a name and a token, whether or not its kind has them.
func of(kind int, args ...api.Term) api.Term {
	return api.Term{Kind: kind, N: 1, Name: "n", Token: "t", Args: args}
}

func con(names ...string) api.Term {
	t := api.Term{Kind: api.TmCon, N: 3}
	for _, name := range names {
		t.Args = append(t.Args, variable(name))
	}
	return t
}

func use(token string, names ...string) api.Term {
	t := con(names...)
	t.Kind, t.Token = api.TmUse, token
	return t
}

func take(name string, vars []string, args ...api.Term) api.Term {
	return api.Term{Kind: api.TmTake, Name: name, Vars: vars, Args: args}
}

func hold(name, token string, vars []string, args ...api.Term) api.Term {
	return api.Term{Kind: api.TmHold, Name: name, Token: token, Vars: vars, Args: args}
}

func free(token string, args ...api.Term) api.Term {
	return api.Term{Kind: api.TmFree, Token: token, Args: args}
}

func match(name string, cases ...api.Case) api.Term {
	return api.Term{Kind: api.TmMatch, Args: []api.Term{variable(name)}, Cases: cases}
}

func vars(l ...string) []string { return l }

// comes holds what Fn has of a body against what must come, in all fields.
func comes(t *testing.T, given, want api.Term) {
	t.Helper()
	if got := Fn(fn(given)).Body; !scope.Same(got, want) {
		t.Errorf("%s: %s comes, not %s", text.Term(given), text.Term(got), text.Term(want))
	}
}

// stays holds that Fn leaves given as it is.
func stays(t *testing.T, given api.Term) {
	t.Helper()
	comes(t, given, scope.Own(given))
}
