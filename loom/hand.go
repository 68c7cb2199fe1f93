package loom

import (
	"webster/api"
	"webster/wide"
	"webster/word"
)

// find returns the number of the object that o names, which must exist.
func (m *Memory) find(o int) (int, api.Errno) {
	if m == nil {
		return 0, api.ErrNil
	}
	id, _ := word.Named(o)
	if !m.disk.Has(id) {
		return 0, api.ErrNone
	}
	return id, api.OK
}

// atHand returns the slot of the object, if it is at hand.
func (m *Memory) atHand(id int) (int, bool) {
	at, ok := m.names.Slot(id)
	if !ok || !m.slots[at].here() {
		return 0, false
	}
	return at, true
}

// open makes the object that o names at hand, and returns its slot. It must have that kind and an element i; fits tells whether what is to become that element may.
func (m *Memory) open(o int, kind int, i int, fits bool) (int, api.Errno) {
	id, e := m.find(o)
	if e != api.OK {
		return 0, e
	}
	var x api.Obj
	var r resident
	at, here := m.atHand(id)
	if here {
		r = m.slots[at].resident
	} else {
		x, _ = m.disk.Fetch(id)
		r = resident{kind: x.Kind, size: wide.Size(x)}
	}
	switch {
	case r.kind != kind:
		return 0, api.ErrKind
	case i < 0 || i >= r.size:
		return 0, api.ErrIndex
	case !fits:
		return 0, api.ErrArg
	}
	if !here {
		if at, e = m.bring(id, x, r); e != api.OK {
			return 0, e
		}
	}
	m.clock.Touch(at)
	return at, api.OK
}

// bring makes the object x, which is r once it has a block, at hand, and returns its slot.
func (m *Memory) bring(id int, x api.Obj, r resident) (int, api.Errno) {
	// Ahead of any change: would there be room if nothing else were at hand?
	if m.names.Size() == 0 || r.length() > m.words {
		return 0, api.ErrFull
	}
	at := m.bind(id)
	// Until it has its block, the object may lose the last word that names it, but not its slot.
	m.slots[at].named++
	defer m.release(at)
	r.block = m.alloc(r.length())
	m.heap.Write(r.block, 0, m.narrow(x, r.length())...)
	m.slots[at].resident = r
	m.clock.In(at, true)
	return at, api.OK
}

// bind returns the slot of the object. If no slot is free for it, objects are evicted until one is.
func (m *Memory) bind(id int) int {
	at, e := m.names.Bind(id)
	for e == api.ErrFull {
		m.Sweep(1)
		at, e = m.names.Bind(id)
	}
	return at
}

// alloc returns a block of n words. Objects are evicted until n words are free; if these are not in one piece, the heap is compacted.
func (m *Memory) alloc(n int) int {
	var block int
victims:
	for {
		b, e := m.heap.Alloc(n)
		switch {
		case e == api.OK:
			block = b
			break victims
		case m.free() >= n:
			m.heap.Compact()
		default:
			m.Sweep(1)
		}
	}
	return block
}

// free returns how many words of the heap are free.
func (m *Memory) free() int {
	n, _ := m.heap.Room()
	return n
}

// evict makes the object with that slot leave the heap; the disk has all of it then.
func (m *Memory) evict(at int) {
	m.save(at)
	m.clear(at)
}

// leave makes those of the objects that are at hand leave the heap; what the disk has of them remains.
func (m *Memory) leave(ids ...int) {
	for _, id := range ids {
		if at, ok := m.atHand(id); ok {
			m.clear(at)
		}
	}
}

// clear makes the slot that of a leaf, or free.
func (m *Memory) clear(at int) {
	s := &m.slots[at]
	if s.kind == api.Words {
		for i := range s.size {
			m.forget(s.block, i)
		}
	}
	m.heap.Free(s.block)
	m.clock.In(at, false)
	s.resident = resident{}
	m.tidy(at)
}

// save writes the object with that slot to the disk, if it was changed.
func (m *Memory) save(at int) {
	s := &m.slots[at]
	if !s.changed {
		return
	}
	// It has as many words or bytes as the disk has of it, so there is room.
	id, _ := m.names.ID(at)
	m.disk.Store(id, m.whole(id))
	s.changed = false
}

// whole returns the object as it is now: what the disk has, with what is at hand in its place.
func (m *Memory) whole(id int) api.Obj {
	x, _ := m.disk.Fetch(id)
	at, ok := m.atHand(id)
	if !ok {
		return x
	}
	block := m.slots[at].block
	for i := range x.W {
		w, _ := m.heap.Read(block, i)
		if v, ok := m.long(w); ok {
			x.W[i] = v
		}
	}
	for i := range x.B {
		w, _ := m.heap.Read(block, i/2)
		x.B[i] = byte(w >> shift(i))
	}
	return x
}

// put makes v the word i of the object with that slot, and returns its narrow word.
func (m *Memory) put(at int, i int, v int) int {
	block := m.slots[at].block
	m.forget(block, i)
	w := m.short(v)
	m.heap.Write(block, i, w)
	return w
}

// forget counts the word i of the block as one that names nothing any more.
func (m *Memory) forget(block int, i int) {
	w, _ := m.heap.Read(block, i)
	if at, ok := named(w); ok {
		m.release(at)
	}
}

// release counts one word less that names the object with that slot.
func (m *Memory) release(at int) {
	m.slots[at].named--
	m.tidy(at)
}

// tidy frees the slot if its object is not at hand, and no word names it.
func (m *Memory) tidy(at int) {
	if s := &m.slots[at]; s.named == 0 && !s.here() {
		m.names.Free(at)
	}
}

// narrow returns the n narrow words of the object.
func (m *Memory) narrow(x api.Obj, n int) []int {
	l := make([]int, n)
	for i, v := range x.W {
		l[i] = m.short(v)
	}
	for i, b := range x.B {
		l[i/2] |= int(b) << shift(i)
	}
	return l
}

// short returns the narrow word of the reference v. If that is a slot, one word more names its object.
func (m *Memory) short(v int) int {
	if w, ok := word.Narrow(v); ok {
		return w
	}
	id, _ := word.Named(v)
	if !m.disk.Has(id) {
		return api.Lambda
	}
	at, e := m.names.Bind(id)
	if e != api.OK {
		return api.Lambda // nothing is evicted for a word that the disk can tell
	}
	m.slots[at].named++
	return 2 * at
}

// long returns the reference whose narrow word is w, unless it has to be read from the disk.
func (m *Memory) long(w int) (int, bool) {
	if o, ok := word.Wide(w); ok {
		return o, true
	}
	at, _ := named(w)
	id, ok := m.names.ID(at)
	return word.Oop(id), ok
}

// named returns the slot that the narrow word w names, if it names one.
func named(w int) (int, bool) {
	if w%2 != 0 || w == api.Lambda {
		return 0, false
	}
	return w / 2, true
}

// shift returns by how many bits the byte i is shifted in its narrow word: the first one of two is in the upper half.
func shift(i int) int {
	return halfBits * (1 - i%2)
}
