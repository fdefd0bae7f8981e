package linear

import "slices"

// standing gathers which names (or which tokens) stand in the first terms of lets, but for those that are bound in there.
type standing struct {
	around []map[string]int // what stands in each of the first terms around the place that is read, the outermost one first
	bound  map[string][]int // how many first terms were around where a name was bound; the last one counts
}

func newStanding() *standing { return &standing{bound: map[string][]int{}} }

// open begins a first term, and answers what will stand in it when it is shut.
func (s *standing) open() map[string]int {
	in := map[string]int{}
	s.around = append(s.around, in)
	return in
}

func (s *standing) shut() { s.around = s.around[:len(s.around)-1] }

// meet notes name, that stands at this place.
func (s *standing) meet(name string) {
	for _, in := range slices.Backward(s.around[s.unboundFrom(name):]) {
		if in[name] > 0 {
			// It was met in there, and so those further out have it, too.
			return
		}
		in[name] = 1
	}
}

// unboundFrom tells which is the outermost first term around this place in which name is not bound.
func (s *standing) unboundFrom(name string) int {
	if l := s.bound[name]; len(l) > 0 {
		return l[len(l)-1]
	}
	return 0
}

// with does what must be done where names are bound.
func (s *standing) with(names []string, do func()) {
	for _, name := range names {
		s.bound[name] = append(s.bound[name], len(s.around))
	}
	do()
	for _, name := range names {
		s.bound[name] = s.bound[name][:len(s.bound[name])-1]
	}
}
