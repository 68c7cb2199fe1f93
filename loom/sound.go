package loom

import (
	"slices"

	"webster/api"
	"webster/wide"
)

// Sound reports whether all that is known of the objects is consistent.
func (m *Memory) Sound() bool {
	return m != nil && m.soundNames() && m.soundBlocks() && m.soundDisk()
}

// soundNames reports whether each slot is that of an object at hand, or is named as often as is counted for it, at least once.
func (m *Memory) soundNames() bool {
	counts, ok := m.counts()
	if !ok {
		return false
	}
	for at := range m.slots {
		s := &m.slots[at]
		id, bound := m.names.ID(at)
		present, _, pinned := m.clock.Is(at)
		switch {
		case s.named != counts[at], bound != (s.here() || s.named > 0), present != s.here(), pinned:
			return false
		case bound && !m.disk.Has(id):
			return false
		}
	}
	return true
}

// counts returns how many words at hand name each slot, and false if one of them is no narrow word.
func (m *Memory) counts() ([]int, bool) {
	counts := make([]int, len(m.slots))
	for at := range m.slots {
		s := &m.slots[at]
		if s.kind != api.Words {
			continue
		}
		for i := range s.size {
			w, _ := m.heap.Read(s.block, i)
			if _, ok := m.long(w); !ok && w != api.Lambda {
				return nil, false
			}
			if to, ok := named(w); ok {
				counts[to]++
			}
		}
	}
	return counts, true
}

// soundBlocks reports whether each object at hand has a block of its size, and nothing else has one.
func (m *Memory) soundBlocks() bool {
	var blocks []int
	for at := range m.slots {
		s := &m.slots[at]
		if !s.here() {
			continue
		}
		id, _ := m.names.ID(at)
		x, _ := m.disk.Fetch(id)
		if x.Kind != s.kind || wide.Size(x) != s.size || m.heap.Size(s.block) != s.length() {
			return false
		}
		blocks = append(blocks, s.block)
	}
	slices.Sort(blocks)
	return slices.Equal(blocks, m.heap.Blocks())
}

// soundDisk reports whether as many sectors are allocated as the objects need.
func (m *Memory) soundDisk() bool {
	n := 0
	for _, id := range m.disk.Ids() {
		x, _ := m.disk.Fetch(id)
		n += sectors(x)
	}
	return n == m.disk.Used()
}

// sectors returns how many sectors the disk needs for the object.
func sectors(x api.Obj) int {
	b, _ := wide.Encode(x)
	return (len(b) + api.Sector - 1) / api.Sector
}
