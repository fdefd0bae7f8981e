package text

import (
	"strconv"
	"strings"

	"exactchange/api"
)

// split answers the words of s.
func split(s string) []string {
	var words []string
	start := 0
	for i := range len(s) {
		bracket := s[i] == '(' || s[i] == ')'
		if !bracket && !between(s[i]) {
			continue
		}
		if start < i {
			words = append(words, s[start:i])
		}
		if bracket {
			words = append(words, s[i:i+1])
		}
		start = i + 1
	}
	if start < len(s) {
		words = append(words, s[start:])
	}
	return words
}

func between(c byte) bool { return c == ' ' || c == '\n' || c == '\t' }

// reader goes through words, one by one. Once something is wrong there are no more words for it, so that whoever reads on comes to an end at once.
type reader struct {
	words []string
	err   api.Errno
}

// fail keeps the first error alone: the later ones only come of it.
func (r *reader) fail(err api.Errno) {
	if r.err == api.OK {
		r.err = err
	}
	r.words = nil
}

func (r *reader) next() string {
	if len(r.words) == 0 {
		r.fail(api.ErrEnd)
		return ""
	}
	w := r.words[0]
	r.words = r.words[1:]
	return w
}

func (r *reader) expect(word string) {
	if r.next() != word {
		r.fail(api.ErrForm)
	}
}

// more tells whether a list goes on; the bracket that ends it is taken.
func (r *reader) more() bool {
	if len(r.words) > 0 && r.words[0] != ")" {
		return true
	}
	r.next()
	return false
}

func (r *reader) function() api.Fn {
	var f api.Fn
	r.expect("(")
	r.expect("fn")
	f.Name = r.name(r.next())
	f.Params = r.names()
	f.Body = r.term(0)
	r.expect(")")
	return f
}

// name answers w, that must be one.
func (r *reader) name(w string) string {
	if !Name(w) {
		r.fail(api.ErrName)
	}
	return w
}

func (r *reader) names() []string {
	var l []string
	r.expect("(")
	for r.more() {
		l = append(l, r.name(r.next()))
	}
	return l
}

// term reads one that so many others are around.
func (r *reader) term(around int) api.Term {
	var t api.Term
	w := r.next()
	if w != "(" {
		t = r.leaf(w)
	}
	// A word that begins no term is wrong ahead of its depth: only terms lie too deep.
	if around > api.MaxDeep {
		r.fail(api.ErrDeep)
	}
	if w == "(" {
		t = r.branch(around + 1)
	}
	return t
}

func (r *reader) leaf(w string) api.Term {
	if n, ok := number(w); ok {
		return api.Term{Kind: api.TmInt, N: n}
	}
	return api.Term{Kind: api.TmVar, Name: r.name(w)}
}

// branch reads what is behind a term's opening bracket; so many are around the terms in it.
func (r *reader) branch(around int) api.Term {
	var t api.Term
	head := r.next()
	switch {
	case strings.HasPrefix(head, "#"):
		t.Kind, t.N = api.TmCon, r.tag(head)
		t.Args = r.terms(around)
	case head == "let":
		t.Kind, t.Name = api.TmLet, r.name(r.next())
		t.Args = r.two(around)
	case head == "match":
		t.Kind = api.TmMatch
		t.Args = []api.Term{r.term(around)}
		t.Cases = r.cases(around)
	case primitive(head) != 0:
		t.Kind, t.N = api.TmPrim, primitive(head)
		t.Args = r.two(around)
	default:
		t.Kind, t.Name = api.TmCall, r.name(head)
		t.Args = r.terms(around)
	}
	return t
}

func (r *reader) terms(around int) []api.Term {
	var l []api.Term
	for r.more() {
		l = append(l, r.term(around))
	}
	return l
}

// two reads two terms, and the bracket behind them.
func (r *reader) two(around int) []api.Term {
	first := r.term(around)
	second := r.term(around)
	r.expect(")")
	return []api.Term{first, second}
}

func (r *reader) cases(around int) []api.Case {
	var l []api.Case
	for r.more() {
		var c api.Case
		r.expect("(")
		c.Tag = r.tag(r.next())
		c.Vars = r.names()
		c.Body = r.term(around)
		r.expect(")")
		l = append(l, c)
	}
	return l
}

// tag answers the number of w, that must be a constructor's word.
func (r *reader) tag(w string) int {
	digits, marked := strings.CutPrefix(w, "#")
	n, ok := number(digits)
	if !marked || !ok {
		r.fail(api.ErrForm)
	}
	return n
}

// number tells which one w is, and whether it is one: each has one way of being written, so that what is read is written again as it was.
func number(w string) (int, bool) {
	n, err := strconv.Atoi(w)
	return n, err == nil && strconv.Itoa(n) == w
}

// primitive is the one whose sign w is, or 0.
func primitive(w string) int {
	for p := api.PrimAdd; p <= api.PrimSame; p++ {
		if sign(p) == w {
			return p
		}
	}
	return 0
}
