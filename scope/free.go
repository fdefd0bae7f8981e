package scope

import "exactchange/api"

// bound is how often each name is bound around the place that is looked at.
type bound map[string]int

// with does what must be done where names are bound, too.
func (b bound) with(names []string, do func()) {
	for _, n := range names {
		b[n]++
	}
	do()
	for _, n := range names {
		b[n]--
	}
}

// Free tells the names that t needs from around it, in the order in which they come first.
func Free(t api.Term) []string {
	var names []string
	around := bound{}
	told := map[string]int{}
	// One walk, with what is bound on the way kept beside it: lists merged at each term would take far longer for deep ones.
	needs(t, around, func(name string) {
		if around[name] == 0 && told[name] == 0 {
			told[name] = 1
			names = append(names, name)
		}
	})
	return names
}

// needs calls need for each name that is asked for in t, bound around it or not.
func needs(t api.Term, around bound, need func(name string)) {
	if asks(t.Kind) {
		need(t.Name)
	}
	if t.Kind == api.TmVar {
		return
	}
	if t.Kind == api.TmLet && len(t.Args) == 2 {
		needs(t.Args[0], around, need)
		around.with([]string{t.Name}, func() { needs(t.Args[1], around, need) })
		return
	}
	for _, a := range t.Args {
		needs(a, around, need)
	}
	for _, c := range t.Cases {
		around.with(c.Vars, func() { needs(c.Body, around, need) })
	}
}

// asks tells whether terms of that kind need the name that they have.
func asks(kind int) bool {
	switch kind {
	case api.TmVar, api.TmDup, api.TmDrop, api.TmTake, api.TmHold:
		return true
	}
	return false
}
