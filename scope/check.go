package scope

import (
	"slices"

	"exactchange/api"
)

// checker knows what each term of a program is held against.
type checker struct {
	name   func(s string) bool
	params map[string]int // of each function, how many it has
	there  bound
}

// Check tells what is wrong first with the program l; name tells what is a name.
func Check(l []api.Fn, name func(s string) bool) api.Errno {
	if len(l) < 1 || len(l) > api.MaxFns {
		return api.ErrMany
	}
	c := checker{name: guarded(name), params: map[string]int{}, there: bound{}}
	// A body may call functions behind its own, so that all of these are looked at first.
	for _, f := range l {
		if err := c.head(f); err != api.OK {
			return err
		}
	}
	for _, f := range l {
		if err := c.under(f.Params, f.Body, 0); err != api.OK {
			return err
		}
	}
	return api.OK
}

// guarded says no where name is nil, or panics: no caller's function may make Check panic.
func guarded(name func(s string) bool) func(s string) bool {
	return func(s string) (ok bool) {
		defer func() {
			if recover() != nil {
				ok = false
			}
		}()
		return name(s)
	}
}

// head looks at a function but for its body's terms, and notes it.
func (c checker) head(f api.Fn) api.Errno {
	_, taken := c.params[f.Name]
	switch {
	case taken || !c.name(f.Name) || !c.unlike(f.Params):
		return api.ErrName
	case len(f.Params) > api.MaxVars:
		return api.ErrMany
	case larger(f.Body, api.MaxSize):
		return api.ErrMuch
	}
	c.params[f.Name] = len(f.Params)
	return api.OK
}

// unlike tells whether all of l are names, and no two the same.
func (c checker) unlike(l []string) bool {
	ahead := map[string]int{}
	for _, s := range l {
		if ahead[s] > 0 || !c.name(s) {
			return false
		}
		ahead[s] = 1
	}
	return true
}

// under looks at t where names are there, too.
func (c checker) under(names []string, t api.Term, around int) (err api.Errno) {
	c.there.with(names, func() { err = c.term(t, around) })
	return err
}

// term looks at t, that has so many terms around it, and then at all within.
func (c checker) term(t api.Term, around int) api.Errno {
	switch {
	case around > api.MaxDeep:
		return api.ErrDeep
	case t.Kind < api.TmVar || t.Kind > api.TmMatch:
		return api.ErrKind
	case !fits(t):
		return api.ErrMany
	}
	if err := c.alone(t); err != api.OK {
		return err
	}
	for i, a := range t.Args {
		var names []string
		if t.Kind == api.TmLet && i == 1 {
			names = []string{t.Name}
		}
		if err := c.under(names, a, around+1); err != api.OK {
			return err
		}
	}
	if t.Kind == api.TmMatch {
		return c.cases(t.Cases, around+1)
	}
	return api.OK
}

// fits tells whether t has as many arguments as it must, and no cases where it may have none.
func fits(t api.Term) bool {
	n := len(t.Args)
	switch t.Kind {
	case api.TmMatch:
		return n == 1
	case api.TmVar, api.TmInt:
		return n == 0 && len(t.Cases) == 0
	case api.TmPrim, api.TmLet:
		return n == 2 && len(t.Cases) == 0
	}
	return n <= api.MaxVars && len(t.Cases) == 0
}

// alone looks at what t is by itself, whatever is within.
func (c checker) alone(t api.Term) api.Errno {
	switch t.Kind {
	case api.TmVar:
		return unless(c.there[t.Name] > 0, api.ErrNone)
	case api.TmInt:
		return unless(int(int32(t.N)) == t.N, api.ErrRange)
	case api.TmCon:
		return unless(isTag(t.N), api.ErrRange)
	case api.TmPrim:
		return unless(api.PrimAdd <= t.N && t.N <= api.PrimSame, api.ErrKind)
	case api.TmLet:
		return unless(c.name(t.Name), api.ErrName)
	case api.TmCall:
		n, ok := c.params[t.Name]
		if !ok {
			return api.ErrNone
		}
		return unless(n == len(t.Args), api.ErrMany)
	}
	return api.OK
}

func unless(ok bool, err api.Errno) api.Errno {
	if ok {
		return api.OK
	}
	return err
}

func isTag(n int) bool { return 0 <= n && n <= api.MaxTag }

// cases looks at those of a match; around is how many terms are around their bodies.
func (c checker) cases(l []api.Case, around int) api.Errno {
	if len(l) < 1 || len(l) > api.MaxCases {
		return api.ErrMany
	}
	for i, k := range l {
		taken := slices.ContainsFunc(l[:i], func(o api.Case) bool { return o.Tag == k.Tag })
		switch {
		case !isTag(k.Tag):
			return api.ErrRange
		case taken || !c.unlike(k.Vars):
			return api.ErrName
		case len(k.Vars) > api.MaxVars:
			return api.ErrMany
		}
		if err := c.under(k.Vars, k.Body, around); err != api.OK {
			return err
		}
	}
	return api.OK
}
