package linear

import (
	"maps"
	"testing"

	"exactchange/api"
	"exactchange/own"
	"exactchange/scope"
	"exactchange/text"
)

// place is what is there, as the chapter says it, copied wherever ways part.
type place struct {
	names, tokens map[string]int
	lies          map[string]string
}

func (p place) copy() place {
	return place{maps.Clone(p.names), maps.Clone(p.tokens), maps.Clone(p.lies)}
}

func (p place) usedUp(name string) api.Errno {
	n, known := p.names[name]
	switch {
	case !known:
		return api.ErrNone
	case n == 0:
		return api.ErrTwice
	}
	p.names[name]--
	return api.OK
}

func (p place) end() api.Errno {
	for _, n := range p.names {
		if n > 0 {
			return api.ErrLeft
		}
	}
	if len(p.tokens) > 0 {
		return api.ErrLeft
	}
	return api.OK
}

func (p place) arguments(l []api.Term) api.Errno {
	for _, a := range l {
		if a.Kind != api.TmVar {
			return api.ErrForm
		}
		if err := p.usedUp(a.Name); err != api.OK {
			return err
		}
	}
	return p.end()
}

func (p place) term(t api.Term) api.Errno {
	switch t.Kind {
	case api.TmVar:
		return p.arguments([]api.Term{t})
	case api.TmInt:
		return p.end()
	case api.TmCon, api.TmCall, api.TmPrim:
		return p.arguments(t.Args)
	case api.TmUse:
		if n, there := p.tokens[t.Token]; !there || n != len(t.Args) {
			return api.ErrNone
		}
		delete(p.tokens, t.Token)
		return p.arguments(t.Args)
	case api.TmDup, api.TmDrop, api.TmTake, api.TmHold, api.TmFree:
		if len(t.Args) != 1 {
			return api.ErrForm
		}
		if err := p.counting(t); err != api.OK {
			return err
		}
		return p.term(t.Args[0])
	case api.TmMatch:
		return p.match(t)
	case api.TmLet:
		return p.let(t)
	}
	return api.ErrKind
}

func (p place) counting(t api.Term) api.Errno {
	switch t.Kind {
	case api.TmDup:
		in, lies := p.lies[t.Name]
		if p.names[t.Name] == 0 && (!lies || p.names[in] == 0) {
			return api.ErrNone
		}
		p.names[t.Name]++
		return api.OK
	case api.TmFree:
		if _, there := p.tokens[t.Token]; !there {
			return api.ErrNone
		}
		delete(p.tokens, t.Token)
		return api.OK
	case api.TmTake, api.TmHold:
		for _, v := range t.Vars {
			if in, lies := p.lies[v]; !lies || in != t.Name {
				return api.ErrForm
			}
			p.names[v]++
		}
	}
	if err := p.usedUp(t.Name); err != api.OK {
		return err
	}
	if t.Kind == api.TmHold {
		if _, there := p.tokens[t.Token]; there || t.Token == "" {
			return api.ErrName
		}
		p.tokens[t.Token] = len(t.Vars)
	}
	return api.OK
}

func (p place) match(t api.Term) api.Errno {
	if len(t.Args) != 1 || t.Args[0].Kind != api.TmVar {
		return api.ErrForm
	}
	of := t.Args[0].Name
	if p.names[of] == 0 {
		return api.ErrNone
	}
	for _, c := range t.Cases {
		here := p.copy()
		for _, v := range c.Vars {
			if _, known := here.names[v]; known {
				return api.ErrName
			}
			here.names[v] = 0
			here.lies[v] = of
		}
		if err := here.term(c.Body); err != api.OK {
			return err
		}
	}
	return api.OK
}

func (p place) let(t api.Term) api.Errno {
	if len(t.Args) != 2 {
		return api.ErrForm
	}
	if _, known := p.names[t.Name]; known {
		return api.ErrName
	}
	first := place{map[string]int{}, map[string]int{}, maps.Clone(p.lies)}
	in := newContents()
	in.add(t.Args[0])
	for name := range in.names {
		if n, known := p.names[name]; known && !in.had[name] {
			first.names[name] = min(n, 1)
			p.names[name] = max(n-1, 0)
		}
	}
	for token := range in.tokens {
		if n, there := p.tokens[token]; there && !in.held[token] {
			first.tokens[token] = n
			delete(p.tokens, token)
		}
	}
	if err := first.term(t.Args[0]); err != api.OK {
		return err
	}
	p.names[t.Name] = 1
	return p.term(t.Args[1])
}

// contents are the names and the tokens that stand in a term, the names that lets and cases in it have, and the tokens of holds in it.
type contents struct{ names, had, tokens, held map[string]bool }

func newContents() contents {
	return contents{map[string]bool{}, map[string]bool{}, map[string]bool{}, map[string]bool{}}
}

func (c contents) add(t api.Term) {
	switch t.Kind {
	case api.TmVar:
		c.names[t.Name] = true
		return
	case api.TmDup, api.TmDrop, api.TmTake, api.TmHold:
		c.names[t.Name] = true
		c.held[t.Token] = c.held[t.Token] || t.Kind == api.TmHold
	case api.TmUse, api.TmFree:
		c.tokens[t.Token] = true
	case api.TmLet:
		c.had[t.Name] = true
	case api.TmMatch:
		for _, k := range t.Cases {
			for _, v := range k.Vars {
				c.had[v] = true
			}
			c.add(k.Body)
		}
	case api.TmCon, api.TmCall, api.TmPrim:
	default:
		return
	}
	for _, a := range t.Args {
		c.add(a)
	}
}

func chapter(f api.Fn) api.Errno {
	p := place{map[string]int{}, map[string]int{}, map[string]string{}}
	for _, name := range f.Params {
		if p.names[name]++; p.names[name] > 1 {
			return api.ErrName
		}
	}
	return p.term(f.Body)
}

// chooser answers one number after another, each below what it is asked for, and the same ones each time.
func chooser(seed uint64) func(n int) int {
	return func(n int) int {
		seed = seed*6364136223846793005 + 1442695040888963407
		return int(seed>>33) % n
	}
}

// maker makes terms of few names, so that they often meet.
type maker struct {
	choose func(n int) int
}

func (m maker) name() string { return string("xyabc"[m.choose(5)]) }

func (m maker) vars() []string {
	var out []string
	for range m.choose(3) {
		out = append(out, m.name())
	}
	return out
}

// argument is a name, but for a few.
func (m maker) argument(deep int) api.Term {
	if deep > 0 && m.choose(30) == 0 {
		return m.term(deep - 1)
	}
	return variable(m.name())
}

func (m maker) token() string { return []string{"k", "k", "k", "l", ""}[m.choose(5)] }

func (m maker) term(deep int) api.Term {
	t := api.Term{Kind: 1 + m.choose(13), Name: m.name(), Token: m.token()}
	if deep == 0 {
		t.Kind = []int{api.TmVar, api.TmInt, api.TmCon, api.TmUse}[m.choose(4)]
	}
	switch t.Kind {
	case api.TmCon, api.TmCall, api.TmPrim, api.TmUse:
		for range m.choose(3) {
			t.Args = append(t.Args, m.argument(deep))
		}
	case api.TmLet:
		t.Args = []api.Term{m.term(deep - 1), m.term(deep - 1)}
	case api.TmMatch:
		t = match(t.Name)
		for range m.choose(3) {
			t.Cases = append(t.Cases, api.Case{Vars: m.vars(), Body: m.term(deep - 1)})
		}
	case api.TmDup, api.TmDrop, api.TmTake, api.TmHold, api.TmFree:
		t.Vars = m.vars()
		t.Args = []api.Term{m.term(deep - 1)}
	}
	if t.Kind != api.TmVar && t.Kind != api.TmInt && m.choose(40) == 0 {
		return m.otherArgs(t)
	}
	return t
}

// otherArgs is t with an argument more, or with one less.
func (m maker) otherArgs(t api.Term) api.Term {
	if len(t.Args) == 0 || m.choose(2) == 0 {
		t.Args = append(t.Args, variable(m.name()))
	} else {
		t.Args = t.Args[1:]
	}
	return t
}

// alike holds what Check says against what the chapter says, and counts it.
func alike(t *testing.T, f api.Fn, came map[api.Errno]int) {
	t.Helper()
	got, want := Check(f), chapter(f)
	if got != want {
		t.Fatalf("%s of %q: %d comes, not %d", text.Term(f.Body), f.Params, got, want)
	}
	came[got]++
}

func TestManyTermsAsTheChapterSays(t *testing.T) {
	came := map[api.Errno]int{}
	m := maker{chooser(7)}
	for i := range 200000 {
		alike(t, fn(m.term(1+i%6), "x", "y"), came)
		alike(t, fn(m.term(1+i%4), "x"), came)
	}
	for _, err := range []api.Errno{api.OK, api.ErrForm, api.ErrNone, api.ErrName, api.ErrLeft, api.ErrTwice} {
		if came[err] < 100 {
			t.Errorf("%d came %d times only", err, came[err])
		}
	}
}

// spoilt is f with something in its body otherwise, at a place or more.
func spoilt(m maker, t api.Term) api.Term {
	switch m.choose(24) {
	case 0:
		t.Name = "v" + string("12345"[m.choose(5)])
	case 1:
		t = api.Term{Kind: api.TmDup + m.choose(2), Name: "v" + string("12345"[m.choose(5)]), Args: []api.Term{t}}
	case 2:
		if len(t.Args) > 0 {
			t = t.Args[m.choose(len(t.Args))]
		}
	case 3:
		t = api.Term{Kind: api.TmLet, Name: "v" + string("6789"[m.choose(4)]), Args: []api.Term{t, t}}
	}
	for i, a := range t.Args {
		t.Args[i] = spoilt(m, scope.Own(a))
	}
	for i, c := range t.Cases {
		t.Cases[i].Body = spoilt(m, scope.Own(c.Body))
	}
	return t
}

func TestSpoiltFunctionsAsTheChapterSays(t *testing.T) {
	came := map[api.Errno]int{}
	m := maker{chooser(11)}
	for _, f := range own.All(plainOnes(t)) {
		for range 3000 {
			alike(t, fn(spoilt(m, scope.Own(f.Body)), f.Params...), came)
		}
	}
	if came[api.OK] < 100 || came[api.ErrLeft] < 100 || came[api.ErrTwice] < 100 {
		t.Errorf("so often each came: %v", came)
	}
}
