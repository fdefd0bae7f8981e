package heap

import (
	"reflect"
	"slices"
	"testing"

	"exactchange/api"
)

// chooser answers one number after another, each below what it is asked for, and the same ones each time.
func chooser(seed uint64) func(n int) int {
	return func(n int) int {
		seed = seed*6364136223846793005 + 1442695040888963407
		return int(seed>>33) % n
	}
}

// thing is what a cell stands for; it does not count who has it.
type thing struct {
	tag int
	of  []part
}

// part is a thing, or else a slot that is no cell.
type part struct {
	thing *thing
	slot  api.Slot
}

// world has things in rooms; a room may be nobody's, or kept.
type world struct {
	rooms            []*thing
	keeps            []bool
	had              []part // by whoever runs, each as often as it is there
	tokens           []api.Slot
	made, used, peak int
}

// reached is how many places each thing has that somebody can reach.
func (w *world) reached() map[*thing]int {
	n := map[*thing]int{}
	var walk func(p part)
	walk = func(p part) {
		if p.thing == nil {
			return
		}
		if n[p.thing]++; n[p.thing] == 1 {
			for _, q := range p.thing.of {
				walk(q)
			}
		}
	}
	for _, p := range w.had {
		walk(p)
	}
	return n
}

// slot is how a heap has p.
func (w *world) slot(p part) api.Slot {
	if p.thing == nil {
		return p.slot
	}
	return cell(slices.Index(w.rooms, p.thing))
}

func (w *world) slots(l []part) []api.Slot {
	var out []api.Slot
	for _, p := range l {
		out = append(out, w.slot(p))
	}
	return out
}

// sweep takes out of their rooms what nobody can reach any more, and tells how many rooms are not free then.
func (w *world) sweep() int {
	n, live := w.reached(), 0
	for i, x := range w.rooms {
		if x != nil && n[x] == 0 {
			w.rooms[i] = nil
		}
		if w.rooms[i] != nil || w.keeps[i] {
			live++
		}
	}
	w.peak = max(w.peak, live)
	return live
}

// heap is the heap that has what w has.
func (w *world) heap() api.Heap {
	h := api.Heap{Live: w.sweep(), Made: w.made, Used: w.used, Peak: w.peak}
	n := w.reached()
	for i, x := range w.rooms {
		c := api.Cell{}
		if w.keeps[i] {
			c.Count = -1
		} else if x != nil {
			c = api.Cell{Count: n[x], Tag: x.tag, Slots: w.slots(x.of)}
		}
		h.Cells = append(h.Cells, c)
	}
	return h
}

// put has x in the first room that is free.
func (w *world) put(x *thing) {
	w.made++
	for i := range w.rooms {
		if w.rooms[i] == nil && !w.keeps[i] {
			w.rooms[i] = x
			return
		}
	}
	w.rooms, w.keeps = append(w.rooms, x), append(w.keeps, false)
}

// give takes away one of what is had.
func (w *world) give(i int) part {
	p := w.had[i]
	w.had = slices.Delete(w.had, i, i+1)
	return p
}

// some is a thing of some that are had, which are not had but in it then.
func (w *world) some(choose func(n int) int) *thing {
	x := &thing{tag: choose(api.MaxTag + 1)}
	for range choose(4) {
		switch i := choose(len(w.had) + 2); i {
		case len(w.had):
			x.of = append(x.of, part{slot: number(choose(9))})
		case len(w.had) + 1:
			x.of = append(x.of, part{slot: con(choose(9))})
		default:
			x.of = append(x.of, w.give(i))
		}
	}
	return x
}

// open takes one of what is had, that is a thing, and has what is in it.
func (w *world) open(i int) (slot api.Slot, alone bool) {
	p := w.give(i)
	slot = w.slot(p)
	w.had = append(w.had, p.thing.of...)
	return slot, w.reached()[p.thing] == 0
}

// play does one thing, in w and in h; it tells the heap that comes.
func (w *world) play(t *testing.T, h api.Heap, choose func(n int) int) api.Heap {
	t.Helper()
	var err api.Errno
	var got, want api.Slot
	at := choose(len(w.had) + 1)
	kind := choose(12)
	if at == len(w.had) || kind > 5 && kind < 9 && w.had[at].thing == nil {
		kind = 0
	}
	switch kind {
	case 0, 1, 2:
		x := w.some(choose)
		slots := w.slots(x.of)
		w.put(x)
		w.had = append(w.had, part{thing: x})
		want = w.slot(part{thing: x})
		h, got, err = Make(h, x.tag, slots)
	case 3, 4:
		h, err = Dup(h, w.slot(w.had[at]))
		w.had = append(w.had, w.had[at])
	case 5:
		h, err = Drop(h, w.slot(w.give(at)))
	case 6:
		slot, _ := w.open(at)
		h, err = Take(h, slot)
	case 7, 8:
		slot, alone := w.open(at)
		if alone {
			w.keeps[slot.N], want = true, slot
		}
		w.tokens = append(w.tokens, want)
		h, got, err = Hold(h, slot)
	default:
		return w.token(t, h, kind == 9, choose)
	}
	if err != api.OK || got != want {
		t.Fatalf("of kind %d: %v comes, not %v, error %d", kind, got, want, err)
	}
	return h
}

// token gives a token back, or makes something in its room.
func (w *world) token(t *testing.T, h api.Heap, free bool, choose func(n int) int) api.Heap {
	t.Helper()
	if len(w.tokens) == 0 {
		return h
	}
	i := choose(len(w.tokens))
	token := w.tokens[i]
	w.tokens = slices.Delete(w.tokens, i, i+1)
	if token.Kind == api.SlotCell {
		w.keeps[token.N] = false
	}
	if free {
		h, err := Free(h, token)
		if err != api.OK {
			t.Fatalf("%v is not given back: error %d", token, err)
		}
		return h
	}
	x := w.some(choose)
	slots := w.slots(x.of)
	if token.Kind == api.SlotCell {
		w.rooms[token.N] = x
		w.used++
	} else {
		w.put(x)
	}
	w.had = append(w.had, part{thing: x})
	h, got, err := Use(h, token, x.tag, slots)
	if err != api.OK || got != w.slot(part{thing: x}) {
		t.Fatalf("in %v, %v comes, error %d", token, got, err)
	}
	return h
}

// same tells whether a and b are the same, where nil is a list without entries.
func same(a, b api.Heap) bool { return reflect.DeepEqual(Own(a), Own(b)) }

func TestTheCountsAreRight(t *testing.T) {
	shared, kept := 0, 0
	for seed := range uint64(300) {
		choose := chooser(seed)
		w, h := &world{}, api.Heap{}
		for range 60 {
			before := told(h)
			after := w.play(t, h, choose)
			if told(h) != before {
				t.Fatalf("%d: %s was handed in, and is %s then", seed, before, told(h))
			}
			h = after
			if want := w.heap(); !same(h, want) {
				t.Fatalf("%d: behind %s comes %s, not %s", seed, before, told(h), told(want))
			}
			for i, c := range h.Cells {
				if c.Count > 1 {
					shared++
				}
				if w.keeps[i] {
					kept++
				}
			}
		}
		// nothing is left when all is given back
		for _, p := range w.had {
			h, _ = Drop(h, w.slot(p))
		}
		for _, token := range w.tokens {
			h, _ = Free(h, token)
		}
		if h.Live != 0 || slices.ContainsFunc(h.Cells, func(c api.Cell) bool { return !reflect.DeepEqual(c, api.Cell{}) }) {
			t.Fatalf("%d: %s is left", seed, told(h))
		}
	}
	if shared < 1000 || kept < 1000 {
		t.Errorf("too few cells are had twice (%d) or kept (%d) to tell much", shared, kept)
	}
}

// odd is a heap that may be none that the functions make.
func odd(choose func(n int) int) api.Heap {
	far := func() int { return []int{0, 1, 2, 3, 5, -1, -2, 200, 1 << 62, -1 << 63}[choose(10)] }
	h := api.Heap{Made: far(), Used: far(), Live: far(), Peak: far()}
	for range choose(5) {
		h.Cells = append(h.Cells, api.Cell{Count: far() % 4, Tag: far(), Slots: oddSlots(choose)})
	}
	return h
}

func oddSlots(choose func(n int) int) []api.Slot {
	var l []api.Slot
	for range choose(4) {
		l = append(l, oddSlot(choose))
	}
	return l
}

func oddSlot(choose func(n int) int) api.Slot {
	return api.Slot{Kind: []int{0, 1, 2, 2, 2, 2, 3, -1}[choose(8)], N: []int{0, 0, 1, 1, 2, 3, 4, 5, -1, 1 << 62, -1 << 63}[choose(11)]}
}

func TestOfWhateverHeap(t *testing.T) {
	errs := map[api.Errno]int{}
	for seed := range uint64(20000) {
		choose := chooser(seed)
		h, s, l := odd(choose), oddSlot(choose), oddSlots(choose)
		before := told(h)
		hold := func(what string, got api.Heap, at api.Slot, err api.Errno) {
			errs[err]++
			if err != api.OK && (told(got) != ": 0 0 0 0" || at != (api.Slot{})) {
				t.Errorf("%s of %s, %v: %s and %v come beside error %d", what, before, s, told(got), at, err)
			}
			if err != api.OK && err != api.ErrGone && err != api.ErrFull {
				t.Errorf("%s of %s, %v: error %d", what, before, s, err)
			}
			if told(h) != before {
				t.Fatalf("%s of %s, %v: what was handed in is %s then", what, before, s, told(h))
			}
		}
		got, at, err := Make(h, 4, l)
		hold("Make", got, at, err)
		got, err = Dup(h, s)
		hold("Dup", got, api.Slot{}, err)
		got, err = Drop(h, s)
		hold("Drop", got, api.Slot{}, err)
		got, err = Take(h, s)
		hold("Take", got, api.Slot{}, err)
		got, at, err = Hold(h, s)
		hold("Hold", got, at, err)
		got, at, err = Use(h, s, 4, l)
		hold("Use", got, at, err)
		got, err = Free(h, s)
		hold("Free", got, api.Slot{}, err)
		tag, of, err := Get(h, s)
		if err != api.OK && (tag != 0 || len(of) != 0) {
			t.Errorf("Get of %s, %v: %d of %v beside error %d", before, s, tag, of, err)
		}
		hold("Get", api.Heap{}, api.Slot{}, err)
	}
	for _, err := range []api.Errno{api.OK, api.ErrGone, api.ErrFull} {
		if errs[err] < 1000 {
			t.Errorf("error %d comes %d times", err, errs[err])
		}
	}
}
