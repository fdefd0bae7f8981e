package reuse

import (
	"slices"
	"strconv"
	"testing"

	"exactchange/api"
	"exactchange/fuse"
	"exactchange/linear"
	"exactchange/own"
	"exactchange/plain"
	"exactchange/scope"
	"exactchange/text"
)

// hasPlace tells, as the chapter says it, whether t has place for n.
func hasPlace(t api.Term, n int) bool {
	switch t.Kind {
	case api.TmCon:
		return len(t.Args) == n
	case api.TmLet:
		return len(t.Args) == 2 && (suchACon(t.Args[0], n) || hasPlace(t.Args[1], n))
	case api.TmMatch:
		return slices.ContainsFunc(t.Cases, func(c api.Case) bool { return hasPlace(c.Body, n) })
	case api.TmDup, api.TmDrop, api.TmTake, api.TmHold, api.TmFree:
		return len(t.Args) == 1 && hasPlace(t.Args[0], n)
	}
	return false
}

func suchACon(t api.Term, n int) bool { return t.Kind == api.TmCon && len(t.Args) == n }

// with is t, that has place for n, with the token put in it, as the chapter says it, copied all the way.
func with(token string, t api.Term, n int) api.Term {
	t = scope.Own(t)
	switch t.Kind {
	case api.TmCon:
		t.Kind, t.Token = api.TmUse, token
	case api.TmLet:
		i := 1
		if suchACon(t.Args[0], n) {
			i = 0
		}
		t.Args[i] = with(token, t.Args[i], n)
	case api.TmMatch:
		for i, c := range t.Cases {
			if hasPlace(c.Body, n) {
				t.Cases[i].Body = with(token, c.Body, n)
			} else {
				t.Cases[i].Body = free(token, c.Body)
			}
		}
	default:
		t.Args[0] = with(token, t.Args[0], n)
	}
	return t
}

// asked is t as the chapter says it, where so many takes are holds already; it tells how many are then.
func asked(t api.Term, holds int) (api.Term, int) {
	t = scope.Own(t)
	if t.Kind == api.TmTake && len(t.Args) == 1 && hasPlace(t.Args[0], len(t.Vars)) {
		holds++
		t.Kind, t.Token = api.TmHold, "k"+strconv.Itoa(holds)
		t.Args[0] = with(t.Token, t.Args[0], len(t.Vars))
	}
	for i, a := range t.Args {
		t.Args[i], holds = asked(a, holds)
	}
	for i, c := range t.Cases {
		t.Cases[i].Body, holds = asked(c.Body, holds)
	}
	return t, holds
}

// chooser answers one number after another, each below what it is asked for, and the same ones each time.
func chooser(seed uint64) func(n int) int {
	return func(n int) int {
		seed = seed*6364136223846793005 + 1442695040888963407
		return int(seed>>33) % n
	}
}

// maker makes terms.
type maker struct {
	choose func(n int) int
}

func (m maker) one(l []string) string { return l[m.choose(len(l))] }

// right is a term of a right program's function f, of x and y; these names are there.
func (m maker) right(deep int, there []string) api.Term {
	if deep == 0 {
		return []api.Term{variable(m.one(there)), whole(m.choose(9))}[m.choose(5)/4]
	}
	within := func() api.Term { return m.right(deep-1-m.choose(deep), there) }
	switch m.choose(8) {
	case 0:
		return api.Term{Kind: api.TmPrim, N: 1 + m.choose(5), Args: []api.Term{within(), within()}}
	case 1:
		return api.Term{Kind: api.TmCall, Name: "f", Args: []api.Term{within(), within()}}
	case 2, 3:
		return api.Term{Kind: api.TmCon, N: m.choose(3), Args: []api.Term{within(), within(), within()}[m.choose(4):]}
	case 4:
		name := m.one(m.pool())
		second := m.right(deep-1, append(slices.Clone(there), name))
		return api.Term{Kind: api.TmLet, Name: name, Args: []api.Term{within(), second}}
	}
	t := api.Term{Kind: api.TmMatch, Args: []api.Term{variable(m.one(there))}}
	for tag := range 1 + m.choose(3) {
		vars := m.pool()[:m.choose(4)]
		t.Cases = append(t.Cases, api.Case{Tag: tag, Vars: vars, Body: m.right(deep-1, append(slices.Clone(there), vars...))})
	}
	return t
}

// pool are names, beginning with another one each time.
func (m maker) pool() []string {
	l := vars("a", "b", "c", "x", "y")
	at := m.choose(len(l))
	return append(l[at:len(l):len(l)], l[:at]...)
}

// count tells how many terms in t, with it, are of that kind.
func count(t api.Term, kind int) int {
	n := 0
	if t.Kind == kind {
		n++
	}
	for _, a := range t.Args {
		n += count(a, kind)
	}
	for _, c := range t.Cases {
		n += count(c.Body, kind)
	}
	return n
}

func TestManyFunctionsThatTake(t *testing.T) {
	m := maker{chooser(5)}
	came := map[int]int{}
	for i := range 20000 {
		l := []api.Fn{{Name: "f", Params: vars("x", "y"), Body: m.right(1+i%6, vars("x", "y"))}}
		if err := scope.Check(l, text.Name); err != api.OK {
			if err != api.ErrMuch {
				t.Fatalf("%s is not right: %d", text.Print(l), err)
			}
			continue
		}
		l = fuse.All(own.All(plain.All(l)))
		got := All(l)
		if err := linear.Check(got[0]); err != api.OK {
			t.Fatalf("%s: %s comes, with which %d is wrong", text.Print(l), text.Print(got), err)
		}
		if !scope.Same(own.Erase(got[0].Body), own.Erase(l[0].Body)) {
			t.Fatalf("%s: %s comes, that is another one", text.Print(l), text.Print(got))
		}
		want, _ := asked(l[0].Body, 0)
		comes(t, l[0].Body, want)
		stays(t, got[0].Body)
		for _, kind := range []int{api.TmTake, api.TmHold, api.TmUse, api.TmFree} {
			came[kind] += count(got[0].Body, kind)
		}
	}
	for _, kind := range []int{api.TmTake, api.TmHold, api.TmUse, api.TmFree} {
		if came[kind] < 1000 {
			t.Errorf("kind %d came %d times only", kind, came[kind])
		}
	}
}

// any is a term of few names, whether or not a function has such ones; takes, matches and what they have place in come often.
func (m maker) any(deep int) api.Term {
	ab := vars("a", "b")
	if deep == 0 {
		return con(ab[:m.choose(3)]...)
	}
	within := func() api.Term { return m.any(deep - 1) }
	switch m.choose(10) {
	case 0, 1, 2:
		return take("x", ab[:m.choose(3)], within())
	case 3, 4:
		return api.Term{Kind: api.TmLet, Name: "y", Args: []api.Term{within(), within()}}
	case 5:
		t := of(1+m.choose(14), within(), within())
		t.Args = t.Args[m.choose(3):]
		return t
	case 6:
		return of([]int{api.TmDup, api.TmDrop, api.TmHold, api.TmFree}[m.choose(4)], within())
	case 7:
		return con(ab[:m.choose(3)]...)
	}
	t := match("x")
	for range m.choose(4) {
		t.Cases = append(t.Cases, api.Case{Tag: 1, Vars: ab[:m.choose(3)], Body: within()})
	}
	return t
}

func TestManyTermsAsTheChapterSays(t *testing.T) {
	m := maker{chooser(3)}
	most := 0
	for i := range 50000 {
		given := m.any(1 + i%7)
		want, holds := asked(given, 0)
		comes(t, given, want)
		most = max(most, holds)
	}
	if most < 10 {
		t.Errorf("no term has more than %d holds", most)
	}
}
