package eval

import (
	"slices"

	"exactchange/api"
)

// runner is a program that runs.
type runner struct {
	fns   []api.Fn
	fuel  int
	calls int // that there were
	deep  int // calls that go on
}

// known tells what a name is, at one place of a body.
type known func(name string) (api.Value, api.Errno)

func nothing(string) (api.Value, api.Errno) { return api.Value{}, api.ErrNone }

// with is k where names are these values, whatever k knows of them.
func (k known) with(names []string, values []api.Value) known {
	return func(name string) (api.Value, api.Errno) {
		if i := slices.Index(names, name); i >= 0 {
			return values[i], api.OK
		}
		return k(name)
	}
}

// Run tells what comes of a call of a right program's function, with at most fuel calls in all.
func Run(l []api.Fn, name string, args []int, fuel int) (api.Value, api.Errno) {
	if fuel < 0 || fuel > api.MaxFuel {
		return api.Value{}, api.ErrRange
	}
	values := make([]api.Value, len(args))
	for i, a := range args {
		values[i] = number(a)
	}
	r := runner{fns: l, fuel: fuel}
	v, err := r.call(name, values)
	if err == api.OK && !Few(v) {
		return api.Value{}, api.ErrMuch
	}
	// Within a run, values share what is in them; an answer's lists must not.
	return Own(v), err
}

func (r *runner) call(name string, args []api.Value) (api.Value, api.Errno) {
	at := slices.IndexFunc(r.fns, func(f api.Fn) bool { return f.Name == name && len(f.Params) == len(args) })
	switch {
	case at < 0:
		return api.Value{}, api.ErrNone
	case r.calls >= r.fuel:
		return api.Value{}, api.ErrFuel
	case r.deep >= api.MaxCalls:
		return api.Value{}, api.ErrDeep
	}
	r.calls++
	r.deep++
	f := r.fns[at]
	v, err := r.term(f.Body, known(nothing).with(f.Params, args))
	r.deep--
	return v, err
}

// term tells what t is where names are what k knows.
func (r *runner) term(t api.Term, k known) (api.Value, api.Errno) {
	switch t.Kind {
	case api.TmVar:
		return k(t.Name)
	case api.TmInt:
		return api.Value{N: t.N}, api.OK
	case api.TmLet:
		return r.let(t, k)
	}
	args, err := r.terms(t.Args, k)
	if err != api.OK {
		return api.Value{}, err
	}
	switch t.Kind {
	case api.TmCon:
		return api.Value{Con: true, N: t.N, Kids: args}, api.OK
	case api.TmCall:
		return r.call(t.Name, args)
	case api.TmPrim:
		return prim(t.N, args)
	case api.TmMatch:
		return r.match(args, t.Cases, k)
	}
	return api.Value{}, api.ErrKind
}

// terms tells what those of l are, one by one, up to the first error.
func (r *runner) terms(l []api.Term, k known) ([]api.Value, api.Errno) {
	values := make([]api.Value, len(l))
	for i, t := range l {
		v, err := r.term(t, k)
		if err != api.OK {
			return nil, err
		}
		values[i] = v
	}
	return values, api.OK
}

func (r *runner) let(t api.Term, k known) (api.Value, api.Errno) {
	if len(t.Args) != 2 {
		return api.Value{}, api.ErrMany
	}
	first, err := r.terms(t.Args[:1], k)
	if err != api.OK {
		return api.Value{}, err
	}
	return r.term(t.Args[1], k.with([]string{t.Name}, first))
}

func prim(p int, args []api.Value) (api.Value, api.Errno) {
	if len(args) != 2 {
		return api.Value{}, api.ErrMany
	}
	if args[0].Con || args[1].Con {
		return api.Value{}, api.ErrType
	}
	return Prim(p, args[0].N, args[1].N)
}

func (r *runner) match(args []api.Value, cases []api.Case, k known) (api.Value, api.Errno) {
	if len(args) != 1 {
		return api.Value{}, api.ErrMany
	}
	of := args[0]
	if !of.Con {
		return api.Value{}, api.ErrType
	}
	at := slices.IndexFunc(cases, func(c api.Case) bool { return c.Tag == of.N })
	if at < 0 || len(cases[at].Vars) != len(of.Kids) {
		return api.Value{}, api.ErrCase
	}
	return r.term(cases[at].Body, k.with(cases[at].Vars, of.Kids))
}
