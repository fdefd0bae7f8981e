package heap

import (
	"strconv"
	"strings"
	"testing"

	"exactchange/api"
)

func number(n int) api.Slot { return api.Slot{N: n} }

func con(n int) api.Slot { return api.Slot{Kind: api.SlotCon, N: n} }

func cell(n int) api.Slot { return api.Slot{Kind: api.SlotCell, N: n} }

// slot reads a slot: 5 is a number, #5 a constructor of nothing, @5 a cell.
func slot(word string) api.Slot {
	n, err := strconv.Atoi(strings.TrimLeft(word, "#@"))
	if err != nil {
		panic(err)
	}
	return api.Slot{Kind: strings.Index("#@", word[:1]) + 1, N: n}
}

func wordOf(s api.Slot) string {
	sign := "?"
	if s.Kind >= 0 && s.Kind <= 2 {
		sign = []string{"", "#", "@"}[s.Kind]
	}
	return sign + strconv.Itoa(s.N)
}

func slotsOf(words []string) []api.Slot {
	var l []api.Slot
	for _, w := range words {
		l = append(l, slot(w))
	}
	return l
}

func wordsOf(l []api.Slot) string {
	var words []string
	for _, s := range l {
		words = append(words, wordOf(s))
	}
	return "(" + strings.Join(words, " ") + ")"
}

// told writes h: of each cell its Count, Tag and Slots, where one that is all zero but for the Count is that alone; then Made, Used, Live and Peak.
func told(h api.Heap) string {
	var words []string
	for _, c := range h.Cells {
		word := strconv.Itoa(c.Count)
		if c.Count > 0 || c.Tag != 0 || len(c.Slots) > 0 {
			word += "#" + strconv.Itoa(c.Tag) + wordsOf(c.Slots)
		}
		words = append(words, word)
	}
	counts := ":"
	for _, n := range []int{h.Made, h.Used, h.Live, h.Peak} {
		counts += " " + strconv.Itoa(n)
	}
	return strings.Join(words, " ") + counts
}

// step does what a line tells, such as "make 1 5 @0" or "drop @3".
func step(h api.Heap, line string) (api.Heap, api.Slot, api.Errno) {
	words := strings.Fields(line)
	switch words[0] {
	case "make":
		return Make(h, slot(words[1]).N, slotsOf(words[2:]))
	case "use":
		return Use(h, slot(words[1]), slot(words[2]).N, slotsOf(words[3:]))
	case "hold":
		return Hold(h, slot(words[1]))
	}
	of := map[string]func(h api.Heap, s api.Slot) (api.Heap, api.Errno){"dup": Dup, "drop": Drop, "take": Take, "free": Free}[words[0]]
	h, err := of(h, slot(words[1]))
	return h, api.Slot{}, err
}

// made is what these lines, divided by ;, make of the empty heap.
func made(t *testing.T, lines string) api.Heap {
	t.Helper()
	var h api.Heap
	for line := range strings.SplitSeq(lines, ";") {
		var err api.Errno
		if h, _, err = step(h, line); err != api.OK {
			t.Fatalf("%s: error %d", line, err)
		}
	}
	return h
}
