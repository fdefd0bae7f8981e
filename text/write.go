package text

import (
	"strconv"
	"strings"

	"exactchange/api"
)

// writeTerm writes to one builder all the way down: texts put together level by level would be copied as often as they are nested.
func writeTerm(b *strings.Builder, t api.Term) {
	switch t.Kind {
	case api.TmVar:
		b.WriteString(t.Name)
		return
	case api.TmInt:
		b.WriteString(strconv.Itoa(t.N))
		return
	}
	head, ok := headOf(t)
	if !ok {
		b.WriteString("?")
		return
	}
	b.WriteString("(" + head)
	for _, a := range t.Args {
		b.WriteString(" ")
		writeTerm(b, a)
	}
	if t.Kind == api.TmMatch {
		writeCases(b, t.Cases)
	}
	b.WriteString(")")
}

func writeCases(b *strings.Builder, l []api.Case) {
	for _, c := range l {
		b.WriteString(" (" + tagged(c.Tag) + " " + bracketed(c.Vars) + " ")
		writeTerm(b, c.Body)
		b.WriteString(")")
	}
}

// headOf is what stands in the brackets ahead of the arguments; false, if there is no such term.
func headOf(t api.Term) (string, bool) {
	switch t.Kind {
	case api.TmCon:
		return tagged(t.N), true
	case api.TmCall:
		return t.Name, true
	case api.TmPrim:
		return sign(t.N), sign(t.N) != ""
	case api.TmLet:
		return "let " + t.Name, true
	case api.TmMatch:
		return "match", true
	case api.TmDup:
		return "dup " + t.Name, true
	case api.TmDrop:
		return "drop " + t.Name, true
	case api.TmTake:
		return "take " + t.Name + " " + bracketed(t.Vars), true
	case api.TmHold:
		return "hold " + t.Name + " " + t.Token + " " + bracketed(t.Vars), true
	case api.TmUse:
		return "use " + t.Token + " " + tagged(t.N), true
	case api.TmFree:
		return "free " + t.Token, true
	}
	return "", false
}

func tagged(n int) string { return "#" + strconv.Itoa(n) }

func bracketed(names []string) string { return "(" + strings.Join(names, " ") + ")" }
