package linear

import (
	"maps"
	"slices"
)

// standing gathers where names (or tokens) stand in a body, and where something in there has one of its own.
type standing struct {
	all        []string         // what stands somewhere, or is had, as it was read
	stand, had map[string][]int // at which places of all each name does so
}

func newStanding() *standing {
	return &standing{stand: map[string][]int{}, had: map[string][]int{}}
}

// meet notes a name that stands at this place.
func (s *standing) meet(name string) { s.note(s.stand, name) }

// has notes names that a let or a case (or a token that a hold) has at this place.
func (s *standing) has(names ...string) {
	for _, name := range names {
		s.note(s.had, name)
	}
}

func (s *standing) note(where map[string][]int, name string) {
	where[name] = append(where[name], len(s.all))
	s.all = append(s.all, name)
}

// piece is a part of a body: what was read from one place on, up to another one.
type piece struct {
	of       *standing
	from, to int
}

// begin is a piece that goes on from this place, until it ends.
func (s *standing) begin() *piece { return &piece{of: s, from: len(s.all)} }

func (p *piece) end() { p.to = len(p.of.all) }

// asksFor tells whether name stands in p, and nothing in p has one that is called so, wherever in there.
func (p *piece) asksFor(name string) bool {
	return p.meets(p.of.stand[name]) && !p.meets(p.of.had[name])
}

// meets tells whether one of these places is in p; they are in order.
func (p *piece) meets(places []int) bool {
	i, _ := slices.BinarySearch(places, p.from)
	return i < len(places) && places[i] < p.to
}

// outOf are those known names that p asks for, each once.
func (p *piece) outOf(known map[string]int) []string {
	// Those are gone through that are fewer: lets may be long, and stand deep in one another, where few names are known, or be short where many are.
	names := p.of.all[p.from:p.to]
	if len(known) < len(names) {
		names = slices.Collect(maps.Keys(known))
	}
	told := map[string]int{}
	var out []string
	for _, name := range names {
		if _, is := known[name]; is && told[name] == 0 && p.asksFor(name) {
			told[name]++
			out = append(out, name)
		}
	}
	return out
}
