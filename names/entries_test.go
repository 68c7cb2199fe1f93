package names

import (
	"math"
	"math/rand"
	"testing"

	"webster/api"
)

// sound fails the test unless there are twice as many entries as slots, and each bound slot has one, which is found from its id.
func sound(t *testing.T, x *Table) {
	t.Helper()
	if len(x.entries) != 2*len(x.ids) {
		t.Fatal(len(x.entries), "entries for", len(x.ids), "slots")
	}
	count := make([]int, len(x.ids)+1)
	for _, slot := range x.entries {
		count[slot]++
	}
	if count[free] != 2*len(x.ids)-x.bound {
		t.Fatal(count[free], "entries are free of", len(x.entries), "with", x.bound, "bound slots")
	}
	for _, slot := range x.Slots() {
		at, ok := x.find(x.ids[slot-1])
		if count[slot] != 1 || !ok || x.entries[at] != slot {
			t.Fatal("slot", slot, "has", count[slot], "entries; found", ok, at)
		}
	}
}

// clashing returns n ids that all have the home at.
func clashing(x *Table, at int, n int) []int {
	var l []int
	for id := 1; len(l) < n; id++ {
		if x.home(id) == at {
			l = append(l, id)
		}
	}
	return l
}

// TestHome: each id has a home among the entries, and each entry is the home of some.
func TestHome(t *testing.T) {
	for _, n := range []int{1, 2, 3, 8, 100, maxSlots} {
		x, _ := New(n)
		for at := range x.entries {
			if n < 200 && x.home(clashing(x, at, 1)[0]) != at {
				t.Error(n, at)
			}
		}
		for _, id := range []int{1, 2, 1 << 31, 1 << 32, 1<<32 - 1, 1 << 62, math.MaxInt - 1, math.MaxInt} {
			if at := x.home(id); at < 0 || at >= 2*n {
				t.Error(n, id, at)
			}
		}
	}
}

// TestSteps: with an even spread ids are found after few steps, also if all slots are bound and the ids are at equal distances.
func TestSteps(t *testing.T) {
	for _, step := range []int{1, 2, 3, 1000, maxSlots, 2 * maxSlots, 1 << 15, 1 << 16, 1 << 20, 1 << 32, 1 << 40, 1 << 48} {
		x, _ := New(maxSlots)
		for i := range maxSlots {
			x.Bind(1 + i*step)
		}
		sound(t, x)
		all := 0
		for _, id := range x.ids {
			at, _ := x.find(id)
			all += x.steps(x.home(id), at)
		}
		if all > 4*maxSlots {
			t.Error("ids at the distance", step, "have", all, "steps")
		}
	}
}

// TestClash: ids with the same home, and with neighbouring ones, across the end of the entries too, remain to be found, whichever of them are freed.
func TestClash(t *testing.T) {
	const n = 4
	for first := range 2 * n {
		for second := range 2 * n {
			for gone := range 1 << n {
				x, _ := New(n)
				ids := append(clashing(x, first, 2), clashing(x, second, 4)[2:]...)
				for _, id := range ids {
					x.Bind(id)
				}
				sound(t, x)
				for i := range ids {
					if gone>>i&1 == 1 && x.Free(i+1) != api.OK {
						t.Fatal(first, second, gone)
					}
					sound(t, x)
				}
				for i, id := range ids {
					if slot, ok := x.Slot(id); ok != (gone>>i&1 == 0) || ok && slot != i+1 {
						t.Fatal(first, second, gone, id, slot, ok)
					}
				}
			}
		}
	}
}

// TestSound: the entries remain sound in long work by chance, with few homes for many ids.
func TestSound(t *testing.T) {
	r := rand.New(rand.NewSource(3))
	for _, n := range []int{0, 1, 2, 3, 10} {
		x, _ := New(n)
		var ids []int
		for at := 0; at < 2*n; at += 3 {
			ids = append(ids, clashing(x, at, n)...)
		}
		for range 5000 {
			if r.Intn(2) == 0 && n > 0 {
				x.Bind(ids[r.Intn(len(ids))])
			} else if l := x.Slots(); len(l) > 0 {
				x.Free(l[r.Intn(len(l))])
			}
			sound(t, x)
		}
	}
}
