package text

import (
	"math"
	"reflect"
	"strconv"
	"strings"
	"testing"

	"exactchange/api"
)

// full has something in all of its fields, whatever its kind may need of them.
func full(kind int) api.Term {
	x, y := variable("x"), whole(-2)
	return api.Term{Kind: kind, N: 2, Name: "n", Token: "k", Vars: []string{"a", "b"}, Args: []api.Term{x, y},
		Cases: []api.Case{{Tag: 4, Vars: []string{"p", "q"}, Body: x}, {Body: y}}}
}

func TestEachKindIsWritten(t *testing.T) {
	for kind, want := range []string{
		"?", "n", "2", "(#2 x -2)", "(n x -2)", "(- x -2)", "(let n x -2)", "(match x -2 (#4 (p q) x) (#0 () -2))",
		"(dup n x -2)", "(drop n x -2)", "(take n (a b) x -2)", "(hold n k (a b) x -2)", "(use k #2 x -2)", "(free k x -2)", "?",
	} {
		if got := Term(full(kind)); got != want {
			t.Errorf("kind %d: %q comes, not %q", kind, got, want)
		}
	}
	for _, kind := range []int{-1, 15, 100, math.MaxInt, math.MinInt} {
		if got := Term(full(kind)); got != "?" {
			t.Errorf("kind %d: %q comes", kind, got)
		}
	}
}

func TestEmptyTermsAreWritten(t *testing.T) {
	for kind, want := range []string{
		"?", "", "0", "(#0)", "()", "?", "(let )", "(match)", "(dup )", "(drop )", "(take  ())", "(hold   ())", "(use  #0)", "(free )",
	} {
		bare := api.Term{Kind: kind}
		if got := Term(bare); got != want {
			t.Errorf("kind %d: %q comes, not %q", kind, got, want)
		}
		bare.Vars, bare.Args, bare.Cases = []string{}, []api.Term{}, []api.Case{}
		if got := Term(bare); got != want {
			t.Errorf("kind %d, of empty lists: %q comes, not %q", kind, got, want)
		}
	}
}

func TestNumbersAndSignsAreWritten(t *testing.T) {
	for _, n := range []int{0, 1, -1, 10, math.MaxInt, math.MinInt} {
		if got := Term(whole(n)); got != strconv.Itoa(n) {
			t.Errorf("%d: %q comes", n, got)
		}
		if got := Term(con(n)); got != "(#"+strconv.Itoa(n)+")" {
			t.Errorf("constructor %d: %q comes", n, got)
		}
	}
	x := variable("x")
	for p, want := range []string{"?", "(+ x x)", "(- x x)", "(* x x)", "(< x x)", "(= x x)", "?"} {
		if got := Term(prim(p, x, x)); got != want {
			t.Errorf("primitive %d: %q comes, not %q", p, got, want)
		}
	}
	if got := Term(prim(-1, x, x)); got != "?" {
		t.Errorf("primitive -1: %q comes", got)
	}
}

func TestTermsWithinAreWritten(t *testing.T) {
	none := api.Term{Kind: 99, Args: []api.Term{variable("x")}}
	for _, c := range []struct {
		t    api.Term
		want string
	}{
		{con(1, none, prim(9, whole(1), whole(2)), whole(3)), "(#1 ? ? 3)"},
		{match(none, api.Case{Tag: 1, Vars: []string{"a"}, Body: none}), "(match ? (#1 (a) ?))"},
		{let("x", con(0), api.Term{Kind: api.TmDrop, Name: "y", Args: []api.Term{variable("x")}}), "(let x (#0) (drop y x))"},
		{call("NO NAME", variable("( ")), "(NO NAME ( )"},
	} {
		if got := Term(c.t); got != c.want {
			t.Errorf("%q comes, not %q", got, c.want)
		}
	}
}

func TestFunctionsAreWritten(t *testing.T) {
	for _, c := range []struct {
		l    []api.Fn
		want string
	}{
		{nil, ""},
		{[]api.Fn{}, ""},
		{[]api.Fn{{}}, "(fn  () ?)\n"},
		{[]api.Fn{{Name: "f", Body: whole(1)}, {Name: "g", Params: []string{"x", "y"}, Body: call("f")}}, "(fn f () 1)\n(fn g (x y) (f))\n"},
	} {
		if got := Print(c.l); got != c.want {
			t.Errorf("%q comes, not %q", got, c.want)
		}
	}
}

func TestWrittenAndReadAgain(t *testing.T) {
	for _, s := range []string{
		"(fn f (x) (+ x 1))\n",
		"(fn f (x y) (let x (+ x y) x))\n(fn g () (f -1 2))\n",
		"(fn f (a b) (match a (#0 () b) (#1 (h t) (#1 h (f t b)))))\n",
		"(fn f () (match (#0)))\n(fn f (x x) (= (< x x) (* 0 (- x x))))\n",
	} {
		l, err := Parse(s)
		if got := Print(l); err != api.OK || got != s {
			t.Errorf("%q: %d, %q", s, err, got)
		}
	}
}

// Lists, and the spare room behind them, are as they were.
func TestWritingOnlyReads(t *testing.T) {
	args := []api.Term{variable("x"), variable("spare")}
	names := []string{"a", "spare"}
	for kind := range 15 {
		f := api.Fn{Name: "f", Params: names[:1], Body: api.Term{Kind: kind, N: 1, Name: "n", Vars: names[:1], Args: args[:1], Cases: []api.Case{{Vars: names[:1], Body: args[0]}}}}
		if s := Print([]api.Fn{f}); strings.Contains(s, "spare") {
			t.Errorf("%q comes", s)
		}
	}
	if !reflect.DeepEqual(args, []api.Term{variable("x"), variable("spare")}) || !reflect.DeepEqual(names, []string{"a", "spare"}) {
		t.Errorf("%v, %v are there now", args, names)
	}
}

func TestDeepTermsAreWritten(t *testing.T) {
	const deep = 1<<16 - 1
	x := variable("x")
	for range deep {
		x = con(1, x)
	}
	if got := Term(x); got != strings.Repeat("(#1 ", deep)+"x"+strings.Repeat(")", deep) {
		t.Errorf("%d bytes come", len(got))
	}
}
