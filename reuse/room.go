package reuse

import "exactchange/api"

// room is what a take keeps: its token, and for how many arguments it is.
type room struct {
	token string
	size  int
}

// putIn has each way through t use r up, if t has place for it. Asking and putting are one, so that cases are not gone through again for each match around them.
func (r room) putIn(t *api.Term) (place bool) {
	switch t.Kind {
	case api.TmCon:
		return r.putInCon(t)
	case api.TmLet:
		return len(t.Args) == 2 && (r.putInCon(&t.Args[0]) || r.putIn(&t.Args[1]))
	case api.TmMatch:
		return r.putInCases(t.Cases)
	case api.TmDup, api.TmDrop, api.TmTake, api.TmHold, api.TmFree:
		return len(t.Args) == 1 && r.putIn(&t.Args[0])
	}
	return false
}

// putInCon has t be made in r, if it is a constructor that is as large.
func (r room) putInCon(t *api.Term) (place bool) {
	if t.Kind != api.TmCon || len(t.Args) != r.size {
		return false
	}
	t.Kind, t.Token = api.TmUse, r.token
	return true
}

// putInCases has each of l use r up, if one has place for it: r is there whichever case comes.
func (r room) putInCases(l []api.Case) (place bool) {
	var without []*api.Term
	for i := range l {
		if body := &l[i].Body; !r.putIn(body) {
			without = append(without, body)
		}
	}
	if len(without) == len(l) {
		return false
	}
	for _, body := range without {
		*body = api.Term{Kind: api.TmFree, Token: r.token, Args: []api.Term{*body}}
	}
	return true
}
