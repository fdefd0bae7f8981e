package heap

import (
	"slices"

	"exactchange/api"
)

// kept is the Count of a cell whose room is kept for something else.
const kept = -1

// store is a heap that is changed where it stands.
type store struct{ api.Heap }

// filled is a cell that so many have, with lists of its own.
func filled(count, tag int, l []api.Slot) api.Cell {
	return api.Cell{Count: count, Tag: tag, Slots: slots(l)}
}

func slots(l []api.Slot) []api.Slot { return append([]api.Slot(nil), l...) }

// each does with the slots of l, one by one, what do does, up to the first error.
func each(l []api.Slot, do func(s api.Slot) api.Errno) api.Errno {
	for _, s := range l {
		if err := do(s); err != api.OK {
			return err
		}
	}
	return api.OK
}

// such is the cell of s, if there is one with such a Count.
func (h *store) such(s api.Slot, is func(count int) bool) (*api.Cell, api.Errno) {
	if s.Kind != api.SlotCell || s.N < 0 || s.N >= len(h.Cells) || !is(h.Cells[s.N].Count) {
		return nil, api.ErrGone
	}
	return &h.Cells[s.N], api.OK
}

// there is the cell of s, if somebody has it.
func (h *store) there(s api.Slot) (*api.Cell, api.Errno) {
	return h.such(s, func(count int) bool { return count > 0 })
}

// room is the cell that token tells, if it is kept.
func (h *store) room(token api.Slot) (*api.Cell, api.Errno) {
	return h.such(token, func(count int) bool { return count == kept })
}

// empty gives a cell back.
func (h *store) empty(c *api.Cell) {
	*c = api.Cell{}
	h.Live--
}

func (h *store) make(tag int, l []api.Slot) (api.Slot, api.Errno) {
	if h.Live >= api.MaxCells {
		return api.Slot{}, api.ErrFull
	}
	at := slices.IndexFunc(h.Cells, func(c api.Cell) bool { return c.Count == 0 })
	if at < 0 {
		at = len(h.Cells)
		h.Cells = append(h.Cells, api.Cell{})
	}
	h.Cells[at] = filled(1, tag, l)
	h.Made++
	h.Live++
	h.Peak = max(h.Peak, h.Live)
	return api.Slot{Kind: api.SlotCell, N: at}, api.OK
}

func (h *store) dup(s api.Slot) api.Errno {
	if s.Kind != api.SlotCell {
		return api.OK
	}
	c, err := h.there(s)
	if err != api.OK {
		return err
	}
	c.Count++
	return api.OK
}

func (h *store) drop(s api.Slot) api.Errno {
	if s.Kind != api.SlotCell {
		return api.OK
	}
	c, err := h.there(s)
	if err != api.OK {
		return err
	}
	if c.Count > 1 {
		c.Count--
		return api.OK
	}
	within := c.Slots
	h.empty(c)
	return each(within, h.drop)
}

// open has s once less, and what is in its cell once more; a cell that nobody else has is what alone makes of it.
func (h *store) open(s api.Slot, alone func(c *api.Cell)) api.Errno {
	c, err := h.there(s)
	if err != api.OK {
		return err
	}
	if c.Count == 1 {
		// What was in it goes over to whoever opens it: it is not counted anew.
		alone(c)
		return api.OK
	}
	c.Count--
	return each(c.Slots, h.dup)
}

func (h *store) take(s api.Slot) api.Errno { return h.open(s, h.empty) }

func (h *store) hold(s api.Slot) (api.Slot, api.Errno) {
	var token api.Slot
	err := h.open(s, func(c *api.Cell) {
		*c = api.Cell{Count: kept}
		token = s
	})
	return token, err
}

func (h *store) use(token api.Slot, tag int, l []api.Slot) (api.Slot, api.Errno) {
	if token.Kind != api.SlotCell {
		return h.make(tag, l)
	}
	c, err := h.room(token)
	if err != api.OK {
		return api.Slot{}, err
	}
	*c = filled(1, tag, l)
	h.Used++
	return token, api.OK
}

// give gives the room back that token tells, if it tells one.
func (h *store) give(token api.Slot) api.Errno {
	if token.Kind != api.SlotCell {
		return api.OK
	}
	c, err := h.room(token)
	if err != api.OK {
		return err
	}
	h.empty(c)
	return api.OK
}
