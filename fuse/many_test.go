package fuse

import (
	"slices"
	"testing"

	"exactchange/api"
	"exactchange/linear"
	"exactchange/own"
	"exactchange/plain"
	"exactchange/scope"
	"exactchange/text"
)

// asked is t as the chapter says it, copied all the way.
func asked(t api.Term) api.Term {
	t = scope.Own(t)
	for i, a := range t.Args {
		t.Args[i] = asked(a)
	}
	for i, c := range t.Cases {
		t.Cases[i].Body = asked(c.Body)
		if t.Kind == api.TmMatch && len(t.Args) == 1 && t.Args[0].Kind == api.TmVar {
			t.Cases[i].Body = taking(t.Cases[i], t.Args[0].Name)
		}
	}
	return t
}

func taking(c api.Case, matched string) api.Term {
	var dups []string
	at := c.Body
	for at.Kind == api.TmDup && len(at.Args) == 1 {
		dups = append(dups, at.Name)
		at = at.Args[0]
	}
	if len(c.Vars) == 0 || at.Kind != api.TmDrop || at.Name != matched || len(at.Args) != 1 {
		return c.Body
	}
	for i, name := range dups {
		if !slices.Contains(c.Vars, name) || slices.Contains(dups[:i], name) {
			return c.Body
		}
	}
	rest := at.Args[0]
	for _, name := range slices.Backward(c.Vars) {
		if !slices.Contains(dups, name) {
			rest = drop(name, rest)
		}
	}
	return take(matched, c.Vars, rest)
}

// chooser answers one number after another, each below what it is asked for, and the same ones each time.
func chooser(seed uint64) func(n int) int {
	return func(n int) int {
		seed = seed*6364136223846793005 + 1442695040888963407
		return int(seed>>33) % n
	}
}

// maker makes terms.
type maker struct {
	choose func(n int) int
}

func (m maker) one(l []string) string { return l[m.choose(len(l))] }

// right is a term of a right program's function f, of x and y; these names are there.
func (m maker) right(deep int, there []string) api.Term {
	if deep == 0 {
		return []api.Term{variable(m.one(there)), whole(m.choose(9))}[m.choose(5)/4]
	}
	within := func() api.Term { return m.right(deep-1-m.choose(deep), there) }
	switch m.choose(6) {
	case 0:
		return api.Term{Kind: api.TmPrim, N: 1 + m.choose(5), Args: []api.Term{within(), within()}}
	case 1:
		return api.Term{Kind: api.TmCall, Name: "f", Args: []api.Term{within(), within()}}
	case 2:
		return api.Term{Kind: api.TmCon, N: m.choose(3), Args: []api.Term{within(), within(), within()}[m.choose(4):]}
	case 3:
		name := m.one(m.pool())
		second := m.right(deep-1, append(slices.Clone(there), name))
		return api.Term{Kind: api.TmLet, Name: name, Args: []api.Term{within(), second}}
	}
	t := api.Term{Kind: api.TmMatch, Args: []api.Term{variable(m.one(there))}}
	for tag := range 1 + m.choose(3) {
		vars := m.pool()[:m.choose(4)]
		t.Cases = append(t.Cases, api.Case{Tag: tag, Vars: vars, Body: m.right(deep-1, append(slices.Clone(there), vars...))})
	}
	return t
}

// pool are names, beginning with another one each time.
func (m maker) pool() []string {
	l := names("a", "b", "c", "x", "y")
	at := m.choose(len(l))
	return append(l[at:len(l):len(l)], l[:at]...)
}

func TestManyFunctionsThatCount(t *testing.T) {
	m := maker{chooser(5)}
	changed, fewer := 0, 0
	for i := range 20000 {
		l := []api.Fn{{Name: "f", Params: names("x", "y"), Body: m.right(1+i%6, names("x", "y"))}}
		if err := scope.Check(l, text.Name); err != api.OK {
			if err != api.ErrMuch {
				t.Fatalf("%s is not right: %d", text.Print(l), err)
			}
			continue
		}
		l = own.All(plain.All(l))
		got := All(l)
		if err := linear.Check(got[0]); err != api.OK {
			t.Fatalf("%s: %s comes, with which %d is wrong", text.Print(l), text.Print(got), err)
		}
		if !scope.Same(own.Erase(got[0].Body), own.Erase(l[0].Body)) {
			t.Fatalf("%s: %s comes, that is another one", text.Print(l), text.Print(got))
		}
		comes(t, l[0].Body, asked(l[0].Body))
		stays(t, got[0].Body)
		if !scope.Same(got[0].Body, l[0].Body) {
			changed++
		}
		if Steps(got[0].Body) < Steps(l[0].Body) {
			fewer++
		}
	}
	if changed < 1000 || fewer < 100 {
		t.Errorf("%d are changed, and %d have fewer steps", changed, fewer)
	}
}

// any is a term of few names, whether or not a function has such ones; matches, dups and drops come often.
func (m maker) any(deep int) api.Term {
	name := m.one(names("x", "x", "a", "b", "c"))
	if deep == 0 {
		return variable(name)
	}
	within := func() api.Term { return m.any(deep - 1) }
	switch m.choose(9) {
	case 0, 1:
		return dup(name, within())
	case 2, 3, 4:
		return drop(name, within())
	case 5:
		t := of(1+m.choose(14), within(), within())
		t.Args = t.Args[m.choose(3):]
		return t
	}
	t := match(name)
	for range m.choose(3) {
		t.Cases = append(t.Cases, api.Case{Tag: 1, Vars: names("a", "b", "c")[:m.choose(4)], Body: within()})
	}
	return t
}

func TestManyTermsAsTheChapterSays(t *testing.T) {
	m := maker{chooser(3)}
	changed := 0
	for i := range 100000 {
		given := m.any(1 + i%8)
		want := asked(given)
		comes(t, given, want)
		if !scope.Same(given, want) {
			changed++
		}
	}
	if changed < 1000 {
		t.Errorf("only %d are changed", changed)
	}
}
