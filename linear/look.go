package linear

import "exactchange/api"

// look goes on from a place on a way, and tells what is wrong first there.
type look func(w *way) api.Errno

// inTurn looks with each of l, until one finds something wrong.
func inTurn(l ...look) look {
	return func(w *way) api.Errno {
		for _, one := range l {
			if err := one(w); err != api.OK {
				return err
			}
		}
		return api.OK
	}
}

// undone looks with l, and then takes back what l did.
func undone(l look) look {
	return func(w *way) api.Errno {
		done := len(w.undo)
		err := l(w)
		w.backTo(done)
		return err
	}
}

// apart looks with l at what has nothing but its part: what these pieces ask for.
func apart(names, tokens *piece, l look) look {
	return func(w *way) api.Errno {
		return l(w.part(names.outOf(w.names), tokens.outOf(w.tokens)))
	}
}

func wrong(err api.Errno) look {
	return func(*way) api.Errno { return err }
}

// end looks whether all is used up.
func end(w *way) api.Errno {
	if w.left > 0 {
		return api.ErrLeft
	}
	return api.OK
}

func unknown(name string) look {
	return func(w *way) api.Errno {
		if w.knows(name) {
			return api.ErrName
		}
		return api.OK
	}
}

func there(name string) look {
	return func(w *way) api.Errno {
		if !w.isThere(name) {
			return api.ErrNone
		}
		return api.OK
	}
}

// given has name be there once.
func given(name string) look {
	return func(w *way) api.Errno {
		w.count(name, 1)
		return api.OK
	}
}

func usedUp(name string) look {
	return func(w *way) api.Errno {
		switch {
		case !w.knows(name):
			return api.ErrNone
		case !w.isThere(name):
			return api.ErrTwice
		}
		w.count(name, w.names[name]-1)
		return api.OK
	}
}

func onceMore(name string) look {
	return func(w *way) api.Errno {
		if !w.isThere(name) && !w.liesIn(name, w.isThere) {
			return api.ErrNone
		}
		w.count(name, w.names[name]+1)
		return api.OK
	}
}

// opened has vars be what lies in name.
func opened(name string, vars []string) look {
	return func(w *way) api.Errno {
		for _, v := range vars {
			if w.knows(v) {
				return api.ErrName
			}
			w.count(v, 0)
			w.lay(v, name)
		}
		return api.OK
	}
}

// takenOut has vars, that lie in name, be there instead of it.
func takenOut(name string, vars []string) look {
	is := func(other string) bool { return other == name }
	out := func(w *way) api.Errno {
		for _, v := range vars {
			if !w.liesIn(v, is) {
				return api.ErrForm
			}
			w.count(v, w.names[v]+1)
		}
		return api.OK
	}
	return inTurn(out, usedUp(name))
}

// kept has a new token be there, for n arguments.
func kept(token string, n int) look {
	return func(w *way) api.Errno {
		if token == "" || w.has(token) {
			return api.ErrName
		}
		w.keep(token, n)
		return api.OK
	}
}

// filled uses up a token for n arguments.
func filled(token string, n int) look {
	return func(w *way) api.Errno {
		if !w.has(token) || w.tokens[token] != n {
			return api.ErrNone
		}
		w.spend(token)
		return api.OK
	}
}

func freed(token string) look {
	return func(w *way) api.Errno {
		if !w.has(token) {
			return api.ErrNone
		}
		w.spend(token)
		return api.OK
	}
}
