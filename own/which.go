package own

import (
	"exactchange/api"
	"exactchange/scope"
)

// which tells of a name whether it is one of those that are meant.
type which func(name string) bool

// neededIn means the names that t needs from around it.
func neededIn(t api.Term) which { return among(scope.Free(t)) }

// among means the names in l.
func among(l []string) which {
	in := map[string]int{}
	for _, name := range l {
		in[name]++
	}
	return func(name string) bool { return in[name] > 0 }
}

func (w which) not() which {
	return func(name string) bool { return !w(name) }
}

func (w which) and(o which) which {
	return func(name string) bool { return w(name) && o(name) }
}

// of is a new list of those in l that are meant, in their order.
func (w which) of(l []string) []string {
	var out []string
	for _, name := range l {
		if w(name) {
			out = append(out, name)
		}
	}
	return out
}

// repeated is each place of l whose name one ahead was, too.
func repeated(l []string) []string {
	met := map[string]int{}
	again := which(func(name string) bool {
		met[name]++
		return met[name] > 1
	})
	return again.of(l)
}
