package own

import (
	"exactchange/api"
	"exactchange/scope"
)

// Erase is t without what counts in it.
func Erase(t api.Term) api.Term { return erased(scope.Own(t)) }

// erased is Erase of a t that belongs to nobody else.
func erased(t api.Term) api.Term {
	for counts(t.Kind) && len(t.Args) == 1 {
		t = t.Args[0]
	}
	if t.Kind == api.TmUse {
		t.Kind, t.Token = api.TmCon, ""
	}
	for i, a := range t.Args {
		t.Args[i] = erased(a)
	}
	for i, c := range t.Cases {
		t.Cases[i].Body = erased(c.Body)
	}
	return t
}

// counts tells whether terms of that kind count, and go on with what stands in them.
func counts(kind int) bool {
	switch kind {
	case api.TmDup, api.TmDrop, api.TmTake, api.TmHold, api.TmFree:
		return true
	}
	return false
}
