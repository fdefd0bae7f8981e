package linear

// way is what is there at a place on the way through a term.
type way struct {
	names  map[string]int    // how often each name that is known is there
	tokens map[string]int    // for how many arguments each token is that is there
	lies   map[string]holder // what names lie in
	left   int               // how much is there in all
	undo   []func()          // what takes back all that was done, the last one first
}

// holder is a name that others lie in.
type holder struct{ name string }

func newWay(lies map[string]holder) *way {
	return &way{names: map[string]int{}, tokens: map[string]int{}, lies: lies}
}

func (w *way) knows(name string) bool {
	_, known := w.names[name]
	return known
}

// has tells whether the token is there.
func (w *way) has(token string) bool {
	_, there := w.tokens[token]
	return there
}

// liesIn tells whether name lies in one for which that holds.
func (w *way) liesIn(name string, holds func(name string) bool) bool {
	h, lies := w.lies[name]
	return lies && holds(h.name)
}

func (w *way) isThere(name string) bool { return w.names[name] > 0 }

// count has name be known, and there n times.
func (w *way) count(name string, n int) {
	w.leave(n - w.names[name])
	w.did(put(w.names, name, n))
}

func (w *way) keep(token string, n int) {
	w.leave(1)
	w.did(put(w.tokens, token, n))
}

// spend has a token that is there be there no more.
func (w *way) spend(token string) {
	n := w.tokens[token]
	delete(w.tokens, token)
	w.leave(-1)
	w.did(func() { w.tokens[token] = n })
}

func (w *way) lay(name, in string) { w.did(put(w.lies, name, holder{in})) }

func (w *way) leave(n int) {
	w.left += n
	w.did(func() { w.left -= n })
}

func (w *way) did(undo func()) { w.undo = append(w.undo, undo) }

// backTo takes back what was done since so much had been done.
func (w *way) backTo(done int) {
	for len(w.undo) > done {
		last := len(w.undo) - 1
		w.undo[last]()
		w.undo = w.undo[:last]
	}
}

// part is a way of its own, that has what w has of these: one of each name, and all tokens.
func (w *way) part(names, tokens []string) *way {
	// What it lays is taken back at the end of each case in it, so that what lies in what need not be copied.
	p := newWay(w.lies)
	for _, name := range names {
		p.names[name] = 0
		if w.isThere(name) {
			p.names[name]++
			p.left++
			w.count(name, w.names[name]-1)
		}
	}
	for _, token := range tokens {
		p.keep(token, w.tokens[token])
		w.spend(token)
	}
	return p
}

// put has m say v of key, and answers what has it say what it said ahead.
func put[V any](m map[string]V, key string, v V) (undo func()) {
	old, there := m[key]
	m[key] = v
	return func() {
		if there {
			m[key] = old
		} else {
			delete(m, key)
		}
	}
}
