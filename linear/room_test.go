package linear

import (
	"reflect"
	"testing"

	"exactchange/api"
	"exactchange/own"
	"exactchange/text"
)

func spareNames(l []string) []string { return append(l, "spare")[:len(l)] }

// spare gives each list in t room behind it, with litter there.
func spare(t api.Term) api.Term {
	args := make([]api.Term, 0, len(t.Args)+1)
	for _, a := range t.Args {
		args = append(args, spare(a))
	}
	cases := make([]api.Case, 0, len(t.Cases)+1)
	for _, c := range t.Cases {
		cases = append(cases, api.Case{Tag: c.Tag, Vars: spareNames(c.Vars), Body: spare(c.Body)})
	}
	t.Vars = spareNames(t.Vars)
	t.Args = append(args, variable("spare"))[:len(args)]
	t.Cases = append(cases, api.Case{Tag: 9})[:len(cases)]
	return t
}

// told is t with the spare room of its lists told, too.
func told(t api.Term) api.Term {
	var args []api.Term
	for _, a := range t.Args[:cap(t.Args)] {
		args = append(args, told(a))
	}
	var cases []api.Case
	for _, c := range t.Cases[:cap(t.Cases)] {
		cases = append(cases, api.Case{Tag: c.Tag, Vars: c.Vars[:cap(c.Vars)], Body: told(c.Body)})
	}
	t.Vars, t.Args, t.Cases = t.Vars[:cap(t.Vars)], args, cases
	return t
}

// roomy are functions of each kind of term, with spare room behind all of their lists.
func roomy(t *testing.T) []api.Fn {
	t.Helper()
	l := append(own.All(plainOnes(t)),
		fn(body(t, "(match x (#1 (a b) (hold x k (a b) (let z (use k (#2 a b)) (match z (#2 (c) (take z (c) (#1 y c))))))) (#0 () (hold x k (free k y))))"), "x", "y"),
		fn(body(t, "(let z (drop x (#1 y y)) (#1 z x))"), "x", "y"),
	)
	for i := range l {
		l[i].Params = spareNames(append([]string(nil), l[i].Params...))
		l[i].Body = spare(l[i].Body)
	}
	return l
}

func TestWhatIsHandedInIsOnlyRead(t *testing.T) {
	given, same := roomy(t), roomy(t)
	for i, f := range given {
		first := Check(f)
		for range 10 {
			if got := Check(f); got != first {
				t.Errorf("%s: %d comes, and then %d", text.Term(f.Body), first, got)
			}
		}
		if !reflect.DeepEqual(f.Params[:cap(f.Params)], same[i].Params[:cap(f.Params)]) || !reflect.DeepEqual(told(f.Body), told(same[i].Body)) {
			t.Errorf("what was handed in is changed: %#v", f)
		}
		want := api.OK
		if i == len(given)-1 {
			want = api.ErrTwice
		}
		if first != want {
			t.Errorf("%s: %d comes, not %d", text.Term(f.Body), first, want)
		}
	}
}

func TestNothingIsAList(t *testing.T) {
	for _, kind := range []int{0, api.TmVar, api.TmInt, api.TmCon, api.TmCall, api.TmPrim, api.TmLet, api.TmMatch, api.TmDup, api.TmDrop, api.TmTake, api.TmHold, api.TmUse, api.TmFree} {
		none := api.Fn{Body: api.Term{Kind: kind}}
		empty := api.Fn{Params: []string{}, Body: api.Term{Kind: kind, Vars: []string{}, Args: []api.Term{}, Cases: []api.Case{}}}
		if a, b := Check(none), Check(empty); a != b {
			t.Errorf("kind %d: %d comes of nothing, %d of what is empty", kind, a, b)
		}
	}
	if got := Check(api.Fn{}); got != api.ErrKind {
		t.Errorf("%d comes of nothing at all", got)
	}
}
