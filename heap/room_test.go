package heap

import (
	"reflect"
	"slices"
	"testing"

	"exactchange/api"
)

func spareSlots(l ...api.Slot) []api.Slot { return append(slices.Clone(l), cell(0), con(7))[:len(l)] }

// roomy is a heap of cells that are had, kept and free, with spare room behind all of its lists, and litter there.
func roomy() api.Heap {
	cells := []api.Cell{
		{Count: 3, Tag: 1, Slots: spareSlots(number(5))},
		{Count: 1, Tag: 2, Slots: spareSlots(cell(0), con(3))},
		{Count: 2, Tag: 3, Slots: spareSlots(cell(0), cell(1))},
		{Count: -1},
		{Slots: spareSlots()},
		{Count: 1, Tag: 4, Slots: spareSlots()},
	}
	litter := api.Cell{Tag: 9, Slots: spareSlots(cell(1))}
	return api.Heap{Cells: append(cells, litter, litter)[:len(cells)], Made: 8, Used: 1, Live: 5, Peak: 6}
}

// room is h with the spare room of its lists told, too.
func room(h api.Heap) api.Heap {
	var cells []api.Cell
	for _, c := range h.Cells[:cap(h.Cells)] {
		c.Slots = c.Slots[:cap(c.Slots)]
		cells = append(cells, c)
	}
	h.Cells = cells
	return h
}

// spoil writes over all that h can reach, spare room too.
func spoil(h api.Heap) {
	cells := h.Cells[:cap(h.Cells)]
	for i := range cells {
		spoilSlots(cells[i].Slots)
		cells[i].Count, cells[i].Tag = 77, -1
	}
}

func spoilSlots(l []api.Slot) {
	for i := range l[:cap(l)] {
		l[:cap(l)][i] = api.Slot{Kind: 77, N: -1}
	}
}

// calls are all functions, that answer a heap each; Get's answer is in a cell.
func calls() map[string]func(h api.Heap, l []api.Slot) api.Heap {
	return map[string]func(h api.Heap, l []api.Slot) api.Heap{
		"Own":             func(h api.Heap, l []api.Slot) api.Heap { return Own(h) },
		"Make":            func(h api.Heap, l []api.Slot) api.Heap { h, _, _ = Make(h, 5, l); return h },
		"Make behind all": func(h api.Heap, l []api.Slot) api.Heap { h.Cells = h.Cells[:4]; h, _, _ = Make(h, 5, l); return h },
		"Dup":             func(h api.Heap, l []api.Slot) api.Heap { h, _ = Dup(h, cell(0)); return h },
		"Dup of a number": func(h api.Heap, l []api.Slot) api.Heap { h, _ = Dup(h, number(0)); return h },
		"Drop":            func(h api.Heap, l []api.Slot) api.Heap { h, _ = Drop(h, cell(1)); return h },
		"Drop of one that others have": func(h api.Heap, l []api.Slot) api.Heap {
			h, _ = Drop(h, cell(2))
			return h
		},
		"Drop of a number":             func(h api.Heap, l []api.Slot) api.Heap { h, _ = Drop(h, number(1)); return h },
		"Take":                         func(h api.Heap, l []api.Slot) api.Heap { h, _ = Take(h, cell(1)); return h },
		"Take of one that others have": func(h api.Heap, l []api.Slot) api.Heap { h, _ = Take(h, cell(2)); return h },
		"Hold":                         func(h api.Heap, l []api.Slot) api.Heap { h, _, _ = Hold(h, cell(1)); return h },
		"Hold of one that others have": func(h api.Heap, l []api.Slot) api.Heap { h, _, _ = Hold(h, cell(2)); return h },
		"Use":                          func(h api.Heap, l []api.Slot) api.Heap { h, _, _ = Use(h, cell(3), 5, l); return h },
		"Use of no room":               func(h api.Heap, l []api.Slot) api.Heap { h, _, _ = Use(h, number(0), 5, l); return h },
		"Free":                         func(h api.Heap, l []api.Slot) api.Heap { h, _ = Free(h, cell(3)); return h },
		"Free of no room":              func(h api.Heap, l []api.Slot) api.Heap { h, _ = Free(h, number(0)); return h },
		"Get": func(h api.Heap, l []api.Slot) api.Heap {
			tag, of, _ := Get(h, cell(2))
			return api.Heap{Cells: []api.Cell{{Count: 1, Tag: tag, Slots: of}}}
		},
		"an error": func(h api.Heap, l []api.Slot) api.Heap { h, _, _ = Use(h, cell(0), 5, l); return h },
	}
}

func TestWhatIsHandedInIsOnlyRead(t *testing.T) {
	list := func() []api.Slot { return spareSlots(cell(1), number(4)) }
	whole := func(l []api.Slot) []api.Slot { return l[:cap(l)] }
	for what, of := range calls() {
		want := told(of(roomy(), list()))
		h, l := roomy(), list()
		got := of(h, l)
		if !reflect.DeepEqual(room(h), room(roomy())) || !slices.Equal(whole(l), whole(list())) {
			t.Errorf("%s: what was handed in is changed: %v, %v", what, room(h), whole(l))
		}
		spoil(h)
		spoilSlots(l)
		if told(got) != want {
			t.Errorf("%s: %s is left of what was answered, which was %s", what, told(got), want)
		}
		h, l = roomy(), list()
		spoil(of(h, l))
		if !reflect.DeepEqual(room(h), room(roomy())) || !slices.Equal(whole(l), whole(list())) {
			t.Errorf("%s: what was handed in is changed with what was answered: %v, %v", what, room(h), whole(l))
		}
	}
}

func TestWhatIsHandedInMayBeOneList(t *testing.T) {
	for _, of := range []func(h api.Heap, l []api.Slot) (api.Heap, api.Slot, api.Errno){
		func(h api.Heap, l []api.Slot) (api.Heap, api.Slot, api.Errno) { return Make(h, 5, l) },
		func(h api.Heap, l []api.Slot) (api.Heap, api.Slot, api.Errno) { return Use(h, cell(3), 5, l) },
	} {
		h := roomy()
		got, s, err := of(h, h.Cells[1].Slots)
		if err != api.OK || wordsOf(got.Cells[s.N].Slots) != "(@0 #3)" {
			t.Errorf("%s comes, error %d", told(got), err)
		}
		got.Cells[1].Slots[0].N = 9
		if wordsOf(got.Cells[s.N].Slots) != "(@0 #3)" {
			t.Error("two lists of an answer share their memory")
		}
	}
}

func TestNoListsOfAnAnswerShare(t *testing.T) {
	both := spareSlots(cell(0), number(1))
	h := api.Heap{Cells: []api.Cell{{Count: 5, Tag: 1}, {Count: 1, Tag: 2, Slots: both}, {Count: 1, Tag: 2, Slots: both}, {Count: -1}}, Live: 4}
	for what, of := range calls() {
		seen := map[*api.Slot]bool{}
		for _, c := range of(h, both).Cells {
			if l := c.Slots[:cap(c.Slots)]; len(l) > 0 {
				if seen[&l[0]] {
					t.Errorf("%s: a list stands at two places", what)
				}
				seen[&l[0]] = true
			}
		}
	}
}

func TestNothingIsAList(t *testing.T) {
	for what, of := range calls() {
		none, empty := roomy(), roomy()
		for i := range none.Cells {
			none.Cells[i].Slots, empty.Cells[i].Slots = nil, []api.Slot{}
		}
		if a, b := told(of(none, nil)), told(of(empty, []api.Slot{})); a != b {
			t.Errorf("%s: %s comes of nothing, and %s of what is empty", what, a, b)
		}
		if a, b := told(of(api.Heap{Cells: make([]api.Cell, 4)}, nil)), told(of(api.Heap{Cells: make([]api.Cell, 4, 9)}, []api.Slot{})); a != b {
			t.Errorf("%s: %s and %s come of free cells", what, a, b)
		}
	}
}

func TestAnswersHangOnArgumentsAlone(t *testing.T) {
	for what, of := range calls() {
		first := told(of(roomy(), spareSlots(number(1))))
		for range 20 {
			if got := told(of(roomy(), spareSlots(number(1)))); got != first {
				t.Fatalf("%s: %s comes, and then %s", what, first, got)
			}
		}
	}
}

// chain are n cells, each one in the next.
func chain(n int) api.Heap {
	h := api.Heap{Cells: make([]api.Cell, n), Made: n, Live: n, Peak: n}
	for i := range h.Cells {
		h.Cells[i] = api.Cell{Count: 1, Tag: 1}
		if i > 0 {
			h.Cells[i].Slots = []api.Slot{cell(i - 1)}
		}
	}
	return h
}

func TestMuchWithin(t *testing.T) {
	for _, n := range []int{api.MaxCells, 1 << 16} {
		got, err := Drop(chain(n), cell(n-1))
		if err != api.OK || got.Live != 0 || len(got.Cells) != n || slices.ContainsFunc(got.Cells, func(c api.Cell) bool { return c.Count != 0 || c.Tag != 0 || len(c.Slots) != 0 }) {
			t.Errorf("of %d within one another, %d are left, error %d", n, got.Live, err)
		}
		got, err = Take(chain(n), cell(n-1))
		if err != api.OK || got.Live != n-1 || got.Cells[n-2].Count != 1 {
			t.Errorf("of %d within one another, one is taken, and %d are left, error %d", n, got.Live, err)
		}
	}
}

func TestManyInOne(t *testing.T) {
	const many = 1 << 16
	h := made(t, "make 1")
	h.Cells[0].Count = many
	h, s, err := Make(h, 2, slices.Repeat([]api.Slot{cell(0)}, many))
	if err != api.OK || s != cell(1) {
		t.Fatalf("%v comes, error %d", s, err)
	}
	twice, _ := Dup(h, s)
	if twice, err = Take(twice, s); err != api.OK || twice.Cells[0].Count != 2*many {
		t.Errorf("%d are had once more, error %d", twice.Cells[0].Count-many, err)
	}
	if h, err = Drop(h, s); err != api.OK || h.Live != 0 {
		t.Errorf("%d are left, error %d", h.Live, err)
	}
}
