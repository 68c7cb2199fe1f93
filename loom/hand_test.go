package loom

import (
	"fmt"
	"slices"
	"testing"

	"webster/api"
	"webster/clock"
	"webster/names"
)

// blockWords returns the narrow words of the object with that number, and false if it is not at hand.
func (m *Memory) blockWords(id int) ([]int, bool) {
	at, ok := m.atHand(id)
	if !ok {
		return nil, false
	}
	block := m.slots[at].block
	var l []int
	for i := range m.heap.Size(block) {
		w, _ := m.heap.Read(block, i)
		l = append(l, w)
	}
	return l, true
}

// state tells all that is kept, but for what is on the disk, which is told by what the objects are and where they are.
func (m *Memory) state() string {
	s := fmt.Sprintln(*m.heap, *m.names, m.slots, *m.clock, m.words, *m.disk)
	for _, id := range m.disk.Ids() {
		s += fmt.Sprintln(m.whole(id))
	}
	return s
}

// few is a memory with an object of four words, one of three bytes, and one of one word, all of them at hand, and changed; the first one names the second one and one that is a leaf.
func few(t *testing.T) *Memory {
	t.Helper()
	m, _ := New(20, 50, 9)
	for i, x := range [][2]int{{api.Words, 4}, {api.Bytes, 3}, {api.Words, 1}, {api.Words, 1}} {
		if o, e := m.New(2, x[0], x[1]); o != 2*(i+1) || e != api.OK {
			t.Fatal(o, e)
		}
	}
	for i, e := range []api.Errno{m.Set(2, 0, 4), m.Set(2, 1, 8), m.Set(2, 2, 5), m.Set(2, 3, 1<<20+1), m.SetByte(4, 0, 1), m.SetByte(4, 1, 2), m.SetByte(4, 2, 3), m.Set(6, 0, 6)} {
		if e != api.OK || !m.Sound() {
			t.Fatal(i, e)
		}
	}
	if n, bound, changed := m.Hand(); n != 3 || bound != 4 || changed != 3 {
		t.Fatal(n, bound, changed)
	}
	return m
}

// TestNarrow: which narrow words an object at hand has.
func TestNarrow(t *testing.T) {
	m := few(t)
	slot := func(id int) int {
		at, ok := m.names.Slot(id)
		if !ok {
			t.Error("no slot", id)
		}
		return at
	}
	check := func(id int, want ...int) {
		t.Helper()
		if l, ok := m.blockWords(id); !ok || !slices.Equal(l, want) {
			t.Error(id, l, ok, "want", want)
		}
	}
	check(1, 2*slot(2), 2*slot(4), 5, api.Lambda)
	check(2, 0x0102, 0x0300)
	check(3, 2*slot(3))
	if _, ok := m.blockWords(4); ok {
		t.Error("a leaf has a block")
	}
	for i, x := range []struct{ v, w int }{
		{-1, 65535}, {1, 1}, {32767, 32767}, {-32767, 32769}, {32769, api.Lambda}, {-32769, api.Lambda},
		{2*api.MaxSmall + 1, api.Lambda}, {2*api.MinSmall + 1, api.Lambda}, {10, api.Lambda}, {api.Lambda, api.Lambda}, {2000, api.Lambda}, {2, 2 * slot(1)}, {6, 2 * slot(3)}, {7, 7},
	} {
		if e := m.Set(2, 1, x.v); e != api.OK {
			t.Error(i, e)
		}
		check(1, 2*slot(2), x.w, 5, api.Lambda)
		if v, e := m.Fetch(2, 1); v != x.v || e != api.OK || !m.Sound() {
			t.Error(i, v, e)
		}
		check(1, 2*slot(2), x.w, 5, api.Lambda)
		if e := m.Evict(2); e != api.OK {
			t.Error(e)
		}
		if v, e := m.Fetch(2, 1); v != x.v || e != api.OK || !m.Sound() {
			t.Error(i, v, e)
		}
		check(1, 2*slot(2), x.w, 5, api.Lambda)
	}
	for i, x := range []struct{ at, v, first, second int }{
		{0, 255, 0xff02, 0x0300}, {1, 255, 0xffff, 0x0300}, {0, 0, 0x00ff, 0x0300}, {2, 128, 0x00ff, 0x8000}, {1, 7, 7, 0x8000},
	} {
		if e := m.SetByte(4, x.at, x.v); e != api.OK {
			t.Error(i, e)
		}
		check(2, x.first, x.second)
		m.Evict(4)
		if v, e := m.Byte(4, x.at); v != x.v || e != api.OK {
			t.Error(i, v, e)
		}
		check(2, x.first, x.second)
	}
}

// TestGreatSlots: in a table of the greatest size, twice a slot is still another word than Lambda.
func TestGreatSlots(t *testing.T) {
	const slots = 16383
	m, _ := New(api.MaxSectors, 1000, slots)
	for i := range slots {
		m.New(2, api.Bytes, 0)
		if at, e := m.names.Bind(i + 1); at != i+1 || e != api.OK {
			t.Fatal(at, e)
		}
	}
	m.New(2, api.Bytes, 0)
	if w := m.short(2 * slots); w != 2*slots || m.slots[slots].named != 1 {
		t.Error(w)
	}
	if v, ok := m.long(2 * slots); v != 2*slots || !ok {
		t.Error(v, ok)
	}
	if at, ok := named(2 * slots); at != slots || !ok {
		t.Error(at, ok)
	}
	if w := m.short(2*slots + 2); w != api.Lambda {
		t.Error("no slot is free", w)
	}
	if v, ok := m.long(api.Lambda); v != 0 || ok {
		t.Error(v, ok)
	}
}

// TestFullChangesNothing: with ErrFull nothing at all has changed, not even what is at hand, or in which order it would be evicted.
func TestFullChangesNothing(t *testing.T) {
	m, _ := New(21, 4, 3)
	for _, x := range [][2]int{{api.Words, 2}, {api.Bytes, 3}, {api.Words, 5}, {api.Bytes, 9}, {api.Words, 90}} {
		if _, e := m.New(2, x[0], x[1]); e != api.OK {
			t.Fatal(e)
		}
	}
	for m.Made() < 18 {
		if _, e := m.New(2, api.Words, 0); e != api.OK && e != api.ErrFull {
			t.Fatal(e)
		} else if e == api.ErrFull {
			break
		}
	}
	for _, first := range []func(){
		func() {},
		func() { m.Set(2, 0, 4); m.SetByte(4, 1, 5) },
		func() { m.Set(2, 1, 6) },
		func() { m.Set(2, 0, 8); m.Byte(4, 0); m.Sweep(1) },
		func() { m.Evict(2, 4) },
	} {
		first()
		for i, f := range []func() api.Errno{
			func() api.Errno { _, e := m.Fetch(6, 0); return e },
			func() api.Errno { return m.Set(6, 4, 4) },
			func() api.Errno { _, e := m.Byte(8, 8); return e },
			func() api.Errno { return m.SetByte(8, 0, 4) },
			func() api.Errno { _, e := m.New(2, api.Words, 90); return e },
			func() api.Errno { return m.Become(2, 10) },
			func() api.Errno { return m.Become(10, 2) },
			func() api.Errno { return m.Become(10, 4) },
			func() api.Errno { return m.Become(6, 10) },
		} {
			before := m.state()
			if e := f(); e != api.ErrFull {
				t.Error(i, e)
			}
			if m.state() != before || !m.Sound() {
				t.Error(i, "something has changed")
			}
		}
	}
}

// TestErrorsChangeNothing: so it is with the other errors.
func TestErrorsChangeNothing(t *testing.T) {
	m := few(t)
	m.Evict(6)
	for i, f := range []func() api.Errno{
		func() api.Errno { _, e := m.Fetch(20, 0); return e },
		func() api.Errno { _, e := m.Fetch(4, 0); return e },
		func() api.Errno { _, e := m.Fetch(6, 1); return e },
		func() api.Errno { _, e := m.Fetch(2, -1); return e },
		func() api.Errno { _, e := m.Byte(6, 0); return e },
		func() api.Errno { _, e := m.Byte(4, 3); return e },
		func() api.Errno { return m.Set(6, 0, 0) },
		func() api.Errno { return m.Set(2, 0, -2) },
		func() api.Errno { return m.SetByte(4, 0, 256) },
		func() api.Errno { return m.SetByte(8, 0, 2) },
		func() api.Errno { return m.Become(2, 20) },
		func() api.Errno { return m.Become(3, 2) },
		func() api.Errno { return m.Evict(2, 4, 20) },
		func() api.Errno { return m.Evict(3, 2) },
		func() api.Errno { _, e := m.Obj(20); return e },
		func() api.Errno { _, e := m.New(3, 1, 1); return e },
		func() api.Errno { _, e := m.New(2, 1, 1001); return e },
	} {
		before := m.state()
		if e := f(); e == api.OK {
			t.Error(i, "no error")
		}
		if m.state() != before {
			t.Error(i, "something has changed")
		}
	}
}

// TestTouched: an access touches its object, and nothing stays pinned; Obj touches nothing.
func TestTouched(t *testing.T) {
	m := few(t)
	for i, x := range []struct {
		o      int
		access func() api.Errno
	}{
		{2, func() api.Errno { _, e := m.Fetch(2, 0); return e }},
		{4, func() api.Errno { _, e := m.Byte(4, 0); return e }},
		{4, func() api.Errno { return m.SetByte(4, 0, 1) }},
		{6, func() api.Errno { return m.Set(6, 0, 1) }},
	} {
		at, _ := m.names.Slot(x.o / 2)
		m.clock.In(at, true)
		m.Obj(x.o)
		if present, touched, _ := m.clock.Is(at); !present || touched {
			t.Error(i, present, touched)
		}
		if e := x.access(); e != api.OK {
			t.Error(i, e)
		}
		if present, touched, pinned := m.clock.Is(at); !present || !touched || pinned {
			t.Error(i, present, touched, pinned)
		}
		m.Evict(x.o)
		if present, _, _ := m.clock.Is(at); present {
			t.Error(i, "what is gone is present")
		}
		if e := x.access(); e != api.OK {
			t.Error(i, e)
		}
		at, _ = m.names.Slot(x.o / 2)
		if present, touched, pinned := m.clock.Is(at); !present || !touched || pinned {
			t.Error(i, present, touched, pinned)
		}
	}
}

// TestSoundTells: whatever of the promised consistency is broken, Sound tells.
func TestSoundTells(t *testing.T) {
	slot := func(m *Memory, id int) int { at, _ := m.names.Slot(id); return at }
	at := func(m *Memory, id int) *resident { return &m.slots[slot(m, id)].resident }
	for i, spoil := range []func(m *Memory){
		func(m *Memory) { m.slots[slot(m, 2)].named++ },
		func(m *Memory) { m.slots[slot(m, 2)].named-- },
		func(m *Memory) { m.slots[slot(m, 4)].named = 0 },
		func(m *Memory) { m.slots[9].named = 1 },
		func(m *Memory) { m.slots[0].named = -1 },
		func(m *Memory) { m.names.Free(slot(m, 4)) },
		func(m *Memory) { m.names.Free(slot(m, 2)) },
		func(m *Memory) { m.names.Free(slot(m, 3)) },
		func(m *Memory) { m.names.Bind(5) },
		func(m *Memory) { m.names.Bind(4 << 20) },
		func(m *Memory) { m.New(2, api.Bytes, 1); m.names.Bind(5) },
		func(m *Memory) { m.names, _ = names.New(9) },
		func(m *Memory) { m.clock.In(slot(m, 1), false) },
		func(m *Memory) { m.clock.In(slot(m, 4), true) },
		func(m *Memory) { m.clock.In(0, true) },
		func(m *Memory) { m.clock.Pin(slot(m, 1), true) },
		func(m *Memory) { m.clock, _ = clock.New(10) },
		func(m *Memory) { m.heap.Free(at(m, 2).block) },
		func(m *Memory) { m.heap.Free(at(m, 1).block) },
		func(m *Memory) { m.heap.Alloc(1) },
		func(m *Memory) { m.heap.Alloc(0) },
		func(m *Memory) { at(m, 2).block = at(m, 1).block },
		func(m *Memory) { at(m, 2).block = 7 },
		func(m *Memory) { m.heap.Free(at(m, 2).block); at(m, 2).block, _ = m.heap.Alloc(3) },
		func(m *Memory) { m.heap.Free(at(m, 2).block); at(m, 2).block, _ = m.heap.Alloc(1) },
		func(m *Memory) { at(m, 3).block, at(m, 1).block = at(m, 1).block, at(m, 3).block },
		func(m *Memory) { at(m, 2).size = 4 },
		func(m *Memory) { at(m, 2).size = 5 },
		func(m *Memory) { at(m, 1).size = 3 },
		func(m *Memory) { at(m, 1).kind = api.Bytes },
		func(m *Memory) { *at(m, 2) = resident{kind: api.Words, size: 2, block: at(m, 2).block} },
		func(m *Memory) { at(m, 3).kind = 0 },
		func(m *Memory) { *at(m, 3) = resident{} },
		func(m *Memory) { m.heap.Write(at(m, 1).block, 0, 1) },
		func(m *Memory) { m.heap.Write(at(m, 1).block, 0, api.Lambda) },
		func(m *Memory) { m.heap.Write(at(m, 1).block, 2, 2*slot(m, 2)) },
		func(m *Memory) { m.heap.Write(at(m, 1).block, 3, 2*slot(m, 1)) },
		func(m *Memory) { m.heap.Write(at(m, 1).block, 2, 0) },
		func(m *Memory) { m.heap.Write(at(m, 1).block, 2, 18) },
		func(m *Memory) { m.heap.Write(at(m, 1).block, 2, 20) },
		func(m *Memory) { m.heap.Write(at(m, 1).block, 2, 40000) },
		func(m *Memory) { m.disk.Drop(4) },
		func(m *Memory) { m.disk.Drop(3) },
		func(m *Memory) { m.disk.Drop(2) },
		func(m *Memory) { m.disk.Store(2, api.Obj{Class: 2, Kind: api.Bytes, B: make([]byte, 4)}) },
		func(m *Memory) { m.disk.Store(2, api.Obj{Class: 2, Kind: api.Words, W: []int{2, 2}}) },
		func(m *Memory) { m.disk.Store(3, api.Obj{Class: 2, Kind: api.Bytes, B: []byte{1}}) },
		func(m *Memory) { m.disk.Store(1, api.Obj{Class: 2, Kind: api.Words, W: []int{2, 2, 2}}) },
	} {
		m := few(t)
		spoil(m)
		if m.Sound() {
			t.Error(i, "Sound")
		}
	}
	m := few(t)
	m.heap.Write(at(m, 1).block, 2, 9)
	m.heap.Write(at(m, 2).block, 0, 2*slot(m, 1)) // bytes name nothing
	m.disk.Drop()
	m.clock.Touch(slot(m, 1))
	if !m.Sound() {
		t.Error("not sound")
	}
}
