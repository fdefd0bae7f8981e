package heap

import (
	"strconv"
	"strings"
	"testing"

	"exactchange/api"
)

// row is a line that is done with what the lines ahead make: the heap that comes, and the slot, if that is not zero.
type row struct{ ahead, line, want, slot string }

// come holds each row against what comes.
func come(t *testing.T, rows []row) {
	t.Helper()
	for _, r := range rows {
		h := api.Heap{}
		if r.ahead != "" {
			h = made(t, r.ahead)
		}
		got, s, err := step(h, r.line)
		if r.slot == "" {
			r.slot = "0"
		}
		if told(got) != r.want || wordOf(s) != r.slot || err != api.OK {
			t.Errorf("%s, and then %s: %s and %s come, error %d, not %s and %s", r.ahead, r.line, told(got), wordOf(s), err, r.want, r.slot)
		}
	}
}

// fail holds that each line is that error, and nothing else.
func fail(t *testing.T, want api.Errno, ahead string, lines ...string) {
	t.Helper()
	h := api.Heap{}
	if ahead != "" {
		h = made(t, ahead)
	}
	for _, line := range lines {
		if got, s, err := step(h, line); err != want || told(got) != ": 0 0 0 0" || s != (api.Slot{}) {
			t.Errorf("%s, and then %s: error %d with %s and %s, not error %d", ahead, line, err, told(got), wordOf(s), want)
		}
	}
}

func TestMake(t *testing.T) {
	come(t, []row{
		{"", "make 1", "1#1(): 1 0 1 1", "@0"},
		{"", "make 0 5", "1#0(5): 1 0 1 1", "@0"},
		{"", "make 2 5 #3 5 -7 #0", "1#2(5 #3 5 -7 #0): 1 0 1 1", "@0"},
		{"make 1", "make 2 @0 @0", "1#1() 1#2(@0 @0): 2 0 2 2", "@1"},
		{"", "make 77", "1#77(): 1 0 1 1", "@0"},
		{"", "make -3", "1#-3(): 1 0 1 1", "@0"},
		{"", "make 1 0 1 2 3 4 5 6 7 8 9 10 11", "1#1(0 1 2 3 4 5 6 7 8 9 10 11): 1 0 1 1", "@0"},
		// the first that is free, and Peak as it was where that is more
		{"make 1;make 2;make 3;drop @1", "make 4", "1#1() 1#4() 1#3(): 4 0 3 3", "@1"},
		{"make 1;make 2;make 3;drop @2;drop @0", "make 4 9", "1#4(9) 1#2() 0: 4 0 2 3", "@0"},
		{"make 1;drop @0", "make 4", "1#4(): 2 0 1 1", "@0"},
		// a room that is kept is not free
		{"make 1;make 2;hold @0", "make 3", "-1 1#2() 1#3(): 3 0 3 3", "@2"},
		{"make 1;make 2;make 3;hold @0;drop @2", "make 3", "-1 1#2() 1#3(): 4 0 3 3", "@2"},
	})
}

func TestMakeWhereThereIsNoRoom(t *testing.T) {
	ahead := strings.Repeat("make 1 7;", api.MaxCells-1) + "make 2"
	h := made(t, ahead)
	if h.Live != api.MaxCells || h.Peak != api.MaxCells || len(h.Cells) != api.MaxCells {
		t.Errorf("%d live, %d at most, %d cells", h.Live, h.Peak, len(h.Cells))
	}
	fail(t, api.ErrFull, ahead, "make 3", "make 3 @0", "use 0 3", "use #0 3")
	// rooms that are kept are rooms
	fail(t, api.ErrFull, ahead+";hold @5;hold @9", "make 3", "use #1 3")
	for _, line := range []string{"drop @5", "take @5", "hold @5;free @5"} {
		got, s, err := step(made(t, ahead+";"+line), "make 3")
		if err != api.OK || s != cell(5) || got.Live != api.MaxCells || got.Made != api.MaxCells+1 || got.Peak != api.MaxCells {
			t.Errorf("%s, and then a new one: error %d, %s, %d live, %d made, %d at most", line, err, wordOf(s), got.Live, got.Made, got.Peak)
		}
	}
	got, s, err := step(made(t, ahead+";hold @5"), "use @5 3")
	if err != api.OK || s != cell(5) || got.Live != api.MaxCells || got.Used != 1 {
		t.Errorf("where all is full, a room is not used again: error %d, %s", err, wordOf(s))
	}
	for _, live := range []int{api.MaxCells, api.MaxCells + 1} {
		if _, _, err := Make(api.Heap{Live: live}, 1, nil); err != api.ErrFull {
			t.Errorf("with %d live: error %d", live, err)
		}
	}
}

func TestGet(t *testing.T) {
	h := made(t, "make 1 5;make 2 @0 #3;make 0;dup @1;make 3;hold @3;make 4;drop @4")
	for _, c := range []struct {
		s    string
		tag  int
		want string
	}{{"@0", 1, "(5)"}, {"@1", 2, "(@0 #3)"}, {"@2", 0, "()"}} {
		if tag, l, err := Get(h, slot(c.s)); tag != c.tag || wordsOf(l) != c.want || err != api.OK {
			t.Errorf("%s: %d of %s, error %d", c.s, tag, wordsOf(l), err)
		}
	}
	for _, s := range gone {
		if tag, l, err := Get(h, s); tag != 0 || len(l) != 0 || err != api.ErrGone {
			t.Errorf("%v: %d of %s, error %d", s, tag, wordsOf(l), err)
		}
	}
	if _, _, err := Get(api.Heap{}, cell(0)); err != api.ErrGone {
		t.Errorf("where there are no cells: error %d", err)
	}
}

// gone are slots that are not there in a heap of five cells: of those 3 is kept, and 4 free.
var gone = []api.Slot{{}, number(1), con(0), con(1), cell(3), cell(4), cell(5), cell(-1), cell(1 << 62), cell(-1 << 62), {Kind: 3}, {Kind: -1}, {Kind: 6, N: 1}}

func TestDup(t *testing.T) {
	const two = "make 1 5;make 2 @0 @0"
	come(t, []row{
		{two, "dup @0", "2#1(5) 1#2(@0 @0): 2 0 2 2", ""},
		{two, "dup @1", "1#1(5) 2#2(@0 @0): 2 0 2 2", ""},
		{two + ";dup @1;dup @1", "dup @1", "1#1(5) 4#2(@0 @0): 2 0 2 2", ""},
		{two, "dup 0", "1#1(5) 1#2(@0 @0): 2 0 2 2", ""},
		{two, "dup #1", "1#1(5) 1#2(@0 @0): 2 0 2 2", ""},
		{two, "dup 9", "1#1(5) 1#2(@0 @0): 2 0 2 2", ""},
		{"", "dup #9", ": 0 0 0 0", ""},
	})
	fail(t, api.ErrGone, two, "dup @2", "dup @-1", "dup @99")
	fail(t, api.ErrGone, two+";take @1", "dup @1")
	fail(t, api.ErrGone, two+";hold @1", "dup @1")
	fail(t, api.ErrGone, "", "dup @0")
}

func TestDrop(t *testing.T) {
	const tree = "make 1 5;make 2 @0 #3;dup @1;make 3 @1 4 @1"
	come(t, []row{
		{"make 1", "drop @0", "0: 1 0 0 1", ""},
		{"make 1;dup @0", "drop @0", "1#1(): 1 0 1 1", ""},
		{"make 1;make 2 7", "drop @0", "0 1#2(7): 2 0 1 2", ""},
		// what is in it, too, and what is in that
		{tree, "drop @2", "0 0 0: 3 0 0 3", ""},
		{tree + ";dup @2", "drop @2", "1#1(5) 2#2(@0 #3) 1#3(@1 4 @1): 3 0 3 3", ""},
		{tree + ";dup @0", "drop @2", "1#1(5) 0 0: 3 0 1 3", ""},
		{tree + ";dup @1", "drop @2", "1#1(5) 1#2(@0 #3) 0: 3 0 2 3", ""},
		{tree, "drop 2", "1#1(5) 2#2(@0 #3) 1#3(@1 4 @1): 3 0 3 3", ""},
		{tree, "drop #2", "1#1(5) 2#2(@0 #3) 1#3(@1 4 @1): 3 0 3 3", ""},
		{"", "drop 0", ": 0 0 0 0", ""},
		{"make 1;hold @0;make 2", "drop @1", "-1 0: 2 0 1 2", ""},
	})
	fail(t, api.ErrGone, tree, "drop @3", "drop @-1", "drop @200")
	fail(t, api.ErrGone, tree+";drop @2", "drop @0", "drop @1", "drop @2")
	fail(t, api.ErrGone, "make 1;hold @0", "drop @0")
	fail(t, api.ErrGone, "", "drop @0")
}

func TestDropWhereWhatIsWithinIsNotThere(t *testing.T) {
	// two places in one cell have what is counted once
	fail(t, api.ErrGone, "make 1;make 2 @0 @0", "drop @1")
	fail(t, api.ErrGone, "make 1;make 2 @0;make 3 @1 @0", "drop @2")
	// one that has itself is free by then
	fail(t, api.ErrGone, "make 1 @0", "drop @0")
	come(t, []row{{"make 1 @0;dup @0", "drop @0", "1#1(@0): 1 0 1 1", ""}})
}

func TestTake(t *testing.T) {
	const two = "make 1 5;make 2 @0 #3 @0 4;dup @0"
	come(t, []row{
		{"make 1", "take @0", "0: 1 0 0 1", ""},
		// what is in it stays as it is
		{two, "take @1", "2#1(5) 0: 2 0 1 2", ""},
		// each place of what is in it is counted
		{two + ";dup @1", "take @1", "4#1(5) 1#2(@0 #3 @0 4): 2 0 2 2", ""},
		{two + ";dup @1;dup @1", "take @1", "4#1(5) 2#2(@0 #3 @0 4): 2 0 2 2", ""},
		{two, "take @0", "1#1(5) 1#2(@0 #3 @0 4): 2 0 2 2", ""},
		// nothing deeper is
		{"make 1 5;make 2 @0;make 3 @1;dup @2", "take @2", "1#1(5) 2#2(@0) 1#3(@1): 3 0 3 3", ""},
	})
	fail(t, api.ErrGone, two, "take 1", "take #1", "take 0", "take #0", "take @2", "take @-1")
	fail(t, api.ErrGone, two+";take @1", "take @1")
	fail(t, api.ErrGone, two+";hold @1", "take @1")
	fail(t, api.ErrGone, "", "take @0", "take 0")
}

func TestTakeWhereWhatIsWithinIsNotThere(t *testing.T) {
	come(t, []row{{"make 1;make 2 @0;drop @0", "take @1", "0 0: 2 0 0 2", ""}})
	fail(t, api.ErrGone, "make 1;make 2 @0;drop @0;dup @1", "take @1", "hold @1")
	come(t, []row{{"make 1;make 2 @0;drop @0", "hold @1", "0 -1: 2 0 1 2", "@1"}})
}

func TestHold(t *testing.T) {
	const two = "make 1 5;make 2 @0 #3 @0 4;dup @0"
	come(t, []row{
		{"make 1", "hold @0", "-1: 1 0 1 1", "@0"},
		{two, "hold @1", "2#1(5) -1: 2 0 2 2", "@1"},
		{two + ";dup @1", "hold @1", "4#1(5) 1#2(@0 #3 @0 4): 2 0 2 2", ""},
		{two + ";dup @1;dup @1", "hold @1", "4#1(5) 2#2(@0 #3 @0 4): 2 0 2 2", ""},
		{two, "hold @0", "1#1(5) 1#2(@0 #3 @0 4): 2 0 2 2", ""},
		{two + ";hold @1", "hold @0", "1#1(5) -1: 2 0 2 2", ""},
		{two + ";hold @1;drop @0", "hold @0", "-1 -1: 2 0 2 2", "@0"},
	})
	fail(t, api.ErrGone, two, "hold 1", "hold #1", "hold 0", "hold #0", "hold @2", "hold @-1")
	fail(t, api.ErrGone, two+";take @1", "hold @1")
	fail(t, api.ErrGone, two+";hold @1", "hold @1")
	fail(t, api.ErrGone, "", "hold @0", "hold 0")
}

func TestUse(t *testing.T) {
	const kept = "make 1 5;make 2 @0 6;hold @1"
	come(t, []row{
		{kept, "use @1 3 @0 #7", "1#1(5) 1#3(@0 #7): 2 1 2 2", "@1"},
		{kept, "use @1 0", "1#1(5) 1#0(): 2 1 2 2", "@1"},
		{kept + ";use @1 3;hold @1", "use @1 4 8", "1#1(5) 1#4(8): 2 2 2 2", "@1"},
		{kept + ";drop @0", "use @1 3", "0 1#3(): 2 1 1 2", "@1"},
		// as Make, of a token that is no cell
		{kept, "use 0 3 9", "1#1(5) -1 1#3(9): 3 0 3 3", "@2"},
		{kept, "use 1 3 9", "1#1(5) -1 1#3(9): 3 0 3 3", "@2"},
		{kept, "use #1 3 9", "1#1(5) -1 1#3(9): 3 0 3 3", "@2"},
		{kept + ";drop @0", "use 0 3 9", "1#3(9) -1: 3 0 2 2", "@0"},
		{"", "use 0 1", "1#1(): 1 0 1 1", "@0"},
	})
	fail(t, api.ErrGone, kept, "use @0 3", "use @2 3", "use @-1 3", "use @99 3 1 2")
	fail(t, api.ErrGone, kept+";use @1 3", "use @1 3")
	fail(t, api.ErrGone, kept+";free @1", "use @1 3")
	fail(t, api.ErrGone, "", "use @0 3")
}

func TestFree(t *testing.T) {
	const kept = "make 1 5;make 2 @0 6;hold @1"
	come(t, []row{
		{kept, "free @1", "1#1(5) 0: 2 0 1 2", ""},
		{kept, "free 1", "1#1(5) -1: 2 0 2 2", ""},
		{kept, "free #1", "1#1(5) -1: 2 0 2 2", ""},
		{kept, "free 0", "1#1(5) -1: 2 0 2 2", ""},
		{"", "free 0", ": 0 0 0 0", ""},
	})
	fail(t, api.ErrGone, kept, "free @0", "free @2", "free @-1", "free @99")
	fail(t, api.ErrGone, kept+";free @1", "free @1")
	fail(t, api.ErrGone, kept+";use @1 3", "free @1")
	fail(t, api.ErrGone, "make 1;drop @0", "free @0")
	fail(t, api.ErrGone, "", "free @0")
}

func TestKindsThatThereAreNot(t *testing.T) {
	h := made(t, "make 1 5;make 2 @0;make 3;hold @2")
	all := told(h)
	for _, kind := range []int{3, -1, 17, 1 << 40} {
		for n := range 4 {
			s := api.Slot{Kind: kind, N: n}
			what := strconv.Itoa(kind) + " " + strconv.Itoa(n)
			for _, of := range []func(h api.Heap, s api.Slot) (api.Heap, api.Errno){Dup, Drop, Free} {
				if got, err := of(h, s); err != api.OK || told(got) != all {
					t.Errorf("%s: %s comes, error %d", what, told(got), err)
				}
			}
			if got, err := Take(h, s); err != api.ErrGone || told(got) != ": 0 0 0 0" {
				t.Errorf("%s is taken: %s comes, error %d", what, told(got), err)
			}
			if got, token, err := Hold(h, s); err != api.ErrGone || told(got) != ": 0 0 0 0" || token != (api.Slot{}) {
				t.Errorf("%s is held: %s and %v come, error %d", what, told(got), token, err)
			}
			if got, at, err := Use(h, s, 4, nil); err != api.OK || at != cell(3) || told(got) != "1#1(5) 1#2(@0) -1 1#4(): 4 0 4 4" {
				t.Errorf("%s is used: %s and %v come, error %d", what, told(got), at, err)
			}
		}
	}
}

func TestOwnIsACopyOfAll(t *testing.T) {
	for _, lines := range []string{"make 1", "make 1 5;make 2 @0 #3;make 3;hold @2;use @2 4;hold @2;make 5 @1 @1;dup @1;make 6;drop @4"} {
		h := made(t, lines)
		if got := Own(h); told(got) != told(h) {
			t.Errorf("%s comes of %s", told(got), told(h))
		}
	}
	if got := Own(api.Heap{}); told(got) != ": 0 0 0 0" {
		t.Errorf("%s comes of nothing", told(got))
	}
	odd := api.Heap{Cells: []api.Cell{{Count: -5, Tag: 3, Slots: []api.Slot{{Kind: 9, N: 8}}}, {Tag: 2}}, Made: -1, Used: 2, Live: 3, Peak: -4}
	if got := Own(odd); told(got) != told(odd) {
		t.Errorf("%s comes of %s", told(got), told(odd))
	}
}

func TestExamples(t *testing.T) {
	// a cell that two have is opened: one has it still
	come(t, []row{{"make 1 5;dup @0", "take @0", "1#1(5): 1 0 1 1", ""}})
	// (#1 x (#2 x)): two cells were made, none is left
	come(t, []row{{"make 2 5;make 1 5 @0", "drop @1", "0 0: 2 0 0 2", ""}})
	// a case of two that makes one of two: in the same room
	come(t, []row{{"make 1 5 6;hold @0", "use @0 2 6 5", "1#2(6 5): 1 1 1 1", "@0"}})
}
