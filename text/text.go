// Package text has programs as texts: see doc/01-text.md.
package text

import (
	"strings"

	"exactchange/api"
)

// Name tells whether s is one.
func Name(s string) bool {
	if len(s) < 1 || len(s) > api.MaxName || !letter(s[0]) {
		return false
	}
	for i := range len(s) {
		if !letter(s[i]) && !digit(s[i]) {
			return false
		}
	}
	return true
}

func letter(c byte) bool { return 'a' <= c && c <= 'z' }

func digit(c byte) bool { return '0' <= c && c <= '9' }

// Parse reads the functions that s is.
func Parse(s string) ([]api.Fn, api.Errno) {
	if len(s) > api.MaxText {
		return nil, api.ErrMuch
	}
	// The names that are answered are pieces of the copy, so that they hold on to nothing that was handed in.
	r := reader{words: split(strings.Clone(s))}
	var l []api.Fn
	for len(r.words) > 0 {
		l = append(l, r.function())
	}
	if r.err != api.OK {
		return nil, r.err
	}
	return l, api.OK
}

// Term writes t, of any kind, also where no program may have it.
func Term(t api.Term) string {
	var b strings.Builder
	writeTerm(&b, t)
	return b.String()
}

// Print writes the functions of l, a line each.
func Print(l []api.Fn) string {
	var b strings.Builder
	for _, f := range l {
		b.WriteString("(fn " + f.Name + " " + bracketed(f.Params) + " ")
		writeTerm(&b, f.Body)
		b.WriteString(")\n")
	}
	return b.String()
}

// sign is how primitive p is written; it is empty if there is no such primitive.
func sign(p int) string {
	switch p {
	case api.PrimAdd:
		return "+"
	case api.PrimSub:
		return "-"
	case api.PrimMul:
		return "*"
	case api.PrimLess:
		return "<"
	case api.PrimSame:
		return "="
	}
	return ""
}
