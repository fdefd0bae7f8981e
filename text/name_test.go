package text

import (
	"strings"
	"testing"

	"exactchange/api"
)

func TestNames(t *testing.T) {
	for _, s := range []string{"a", "z", "a0", "z9", "let", "fn", "match", "x1y2z3", strings.Repeat("a", api.MaxName)} {
		if !Name(s) {
			t.Errorf("%q should be a name", s)
		}
	}
	wrong := []string{"", "0", "9a", "A", "aB", "a_b", "a-b", "-a", " a", "a ", "a\n", "a\x00", "é", "aé", "`a", "{", "a/", "a:", "(", "#1", "+", "?",
		strings.Repeat("a", api.MaxName+1), strings.Repeat("a", 1<<16)}
	for _, s := range wrong {
		if Name(s) {
			t.Errorf("%q should not be a name", s)
		}
	}
}

// Every byte, alone, and behind a letter.
func TestNamesByteByByte(t *testing.T) {
	const letters, digits = "abcdefghijklmnopqrstuvwxyz", "0123456789"
	for c := range 256 {
		s := string([]byte{byte(c)})
		if Name(s) != strings.Contains(letters, s) {
			t.Errorf("Name(%q) is %v", s, Name(s))
		}
		if Name("a"+s) != strings.Contains(letters+digits, s) {
			t.Errorf("Name(%q) is %v", "a"+s, Name("a"+s))
		}
	}
}
