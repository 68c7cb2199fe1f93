package names_test

import (
	"fmt"
	"math"
	"math/rand"
	"slices"
	"testing"

	"webster/api"
	"webster/names"
)

const (
	most  = 16383         // slots of the greatest table
	other = 1<<61 + 1<<40 // an id that is in none of the families, like those that follow it
)

// model is a table in the plainest form, against which the package is held: the ids of the slots, 0 for a free one.
type model []int

func (p model) slot(id int) (int, bool) {
	if i := slices.Index(p, id); id != 0 && i >= 0 {
		return i + 1, true
	}
	return 0, false
}

func (p model) id(slot int) (int, bool) {
	if slot < 1 || slot > len(p) || p[slot-1] == 0 {
		return 0, false
	}
	return p[slot-1], true
}

func (p model) bind(id int) (int, api.Errno) {
	if id < 1 {
		return 0, api.ErrArg
	}
	if slot, ok := p.slot(id); ok {
		return slot, api.OK
	}
	i := slices.Index(p, 0)
	if i < 0 {
		return 0, api.ErrFull
	}
	p[i] = id
	return i + 1, api.OK
}

func (p model) free(slots []int) api.Errno {
	for i, slot := range slots {
		if _, ok := p.id(slot); !ok || slices.Contains(slots[:i], slot) {
			return api.ErrNone
		}
	}
	for _, slot := range slots {
		p[slot-1] = 0
	}
	return api.OK
}

func (p model) slots() []int {
	var l []int
	for i, id := range p {
		if id != 0 {
			l = append(l, i+1)
		}
	}
	return l
}

// pair is a table beside the model that tells what it must answer.
type pair struct {
	*testing.T
	x *names.Table
	p model
}

func made(t *testing.T, n int) pair {
	t.Helper()
	x, e := names.New(n)
	if x == nil || e != api.OK {
		t.Fatal("New", n, x, e)
	}
	return pair{t, x, make(model, n)}
}

func (a pair) bind(id int) int {
	a.Helper()
	slot, e := a.x.Bind(id)
	if want, f := a.p.bind(id); slot != want || e != f {
		a.Fatal("Bind", id, slot, e, "want", want, f)
	}
	return slot
}

func (a pair) free(slots ...int) api.Errno {
	a.Helper()
	e := a.x.Free(slots...)
	if want := a.p.free(slots); e != want {
		a.Fatal("Free", slots, e, "want", want)
	}
	return e
}

func (a pair) slot(id int) {
	a.Helper()
	slot, ok := a.x.Slot(id)
	if want, has := a.p.slot(id); slot != want || ok != has {
		a.Fatal("Slot", id, slot, ok, "want", want, has)
	}
}

func (a pair) id(slot int) {
	a.Helper()
	id, ok := a.x.ID(slot)
	if want, has := a.p.id(slot); id != want || ok != has {
		a.Fatal("ID", slot, id, ok, "want", want, has)
	}
}

// same fails the test unless the table is what the model is; ids are some that may have no slot.
func (a pair) same(ids ...int) {
	a.Helper()
	l := a.p.slots()
	if got := a.x.Slots(); !slices.Equal(got, l) {
		a.Fatal("Slots", got, "want", l)
	}
	if a.x.Len() != len(l) || a.x.Size() != len(a.p) {
		a.Fatal("Len", a.x.Len(), "Size", a.x.Size(), "want", len(l), len(a.p))
	}
	for slot := -1; slot < len(a.p)+3; slot++ {
		a.id(slot)
	}
	for _, id := range slices.Concat(a.p, ids) {
		a.slot(id)
	}
}

// strangers are numbers that are neither slots nor ids of these tests; some would be one in another kind of integer.
func strangers() []int {
	return []int{
		-1, -2, -16383, 16384, 1 << 16, 1<<16 + 1, 1 << 32, 1<<32 + 1, 1 << 62, 1<<62 + 1,
		math.MaxInt - 1, math.MaxInt, math.MinInt, math.MinInt + 1, 1 - 1<<32,
	}
}

// families are lists of n ids, no two alike, that tables might take for one another.
func families(n int) map[string][]int {
	l := map[string][]int{}
	for _, step := range []int{1, 2, 3, 16, 64, 1000, 16383, 32766, 1 << 15, 1 << 16, 1 << 32, 1 << 48} {
		name := fmt.Sprint("steps of ", step)
		for i := range n {
			l[name] = append(l[name], 1+i*step)
		}
	}
	for i := range n {
		l["the greatest"] = append(l["the greatest"], math.MaxInt-i)
	}
	r := rand.New(rand.NewSource(2))
	for _, v := range r.Perm(10 * n)[:n] {
		l["by chance"] = append(l["by chance"], v+1)
	}
	return l
}

// permutations are all orders of the numbers from 1 to n.
func permutations(n int) [][]int {
	if n == 0 {
		return [][]int{nil}
	}
	var l [][]int
	for _, p := range permutations(n - 1) {
		for i := range n {
			l = append(l, slices.Insert(slices.Clone(p), i, n))
		}
	}
	return l
}

func TestNew(t *testing.T) {
	for _, n := range []int{0, 1, 2, 3, 10, 255, 256} {
		a := made(t, n)
		a.same(1, 2, 3)
	}
	for _, n := range []int{most - 1, most} {
		x, e := names.New(n)
		if x == nil || e != api.OK || x.Size() != n || x.Len() != 0 || len(x.Slots()) != 0 {
			t.Fatal(n, e)
		}
	}
	for _, n := range []int{-1, -2, -most, most + 1, most + 2, 1 << 15, 1 << 16, 1 << 32, 1<<32 + 1, 1 << 62, math.MaxInt, math.MinInt} {
		if x, e := names.New(n); x != nil || e != api.ErrArg {
			t.Error("New", n, x, e)
		}
	}
}

func TestExample(t *testing.T) {
	x, e := names.New(2)
	if e != api.OK {
		t.Fatal(e)
	}
	for i, id := range []int{70, 80, 70, 90} {
		slot, e := x.Bind(id)
		if slot != []int{1, 2, 1, 0}[i] || e != []api.Errno{0, 0, 0, api.ErrFull}[i] {
			t.Error(id, slot, e)
		}
	}
	if e := x.Free(1); e != api.OK {
		t.Error(e)
	}
	if slot, e := x.Bind(90); slot != 1 || e != api.OK {
		t.Error(slot, e)
	}
}

// TestNil: the calls on a nil table, with good arguments and with bad ones.
func TestNil(t *testing.T) {
	var x *names.Table
	if x.Len() != 0 || x.Size() != 0 || len(x.Slots()) != 0 {
		t.Error(x.Len(), x.Size(), x.Slots())
	}
	if x.Free() != api.ErrNil || x.Free(1, 1) != api.ErrNil {
		t.Error(x.Free(), x.Free(1, 1))
	}
	for _, v := range append(strangers(), 0, 1, 2) {
		if slot, e := x.Bind(v); slot != 0 || e != api.ErrNil {
			t.Error("Bind", v, slot, e)
		}
		if e := x.Free(v); e != api.ErrNil {
			t.Error("Free", v, e)
		}
		if slot, ok := x.Slot(v); slot != 0 || ok {
			t.Error("Slot", v, slot, ok)
		}
		if id, ok := x.ID(v); id != 0 || ok {
			t.Error("ID", v, id, ok)
		}
	}
}

// TestEmpty: a table without slots is always full; so is one that New did not make.
func TestEmpty(t *testing.T) {
	for _, a := range []pair{made(t, 0), {t, new(names.Table), nil}} {
		for _, v := range append(strangers(), 0, 1, 2) {
			a.bind(v)
			a.free(v)
			a.id(v)
			a.slot(v)
		}
		if a.free() != api.OK || a.free(1, 2) != api.ErrNone {
			t.Error("Free")
		}
		a.same(1, 2, math.MaxInt)
	}
}

// TestErrors: an id that is none is told of ahead of a table that is full; neither changes anything.
func TestErrors(t *testing.T) {
	for n := range 4 {
		for bound := range n + 1 {
			a := made(t, n)
			for i := range bound {
				a.bind(100 + i)
			}
			for _, id := range append(strangers(), 0) {
				if id < 1 {
					if slot, e := a.x.Bind(id); slot != 0 || e != api.ErrArg {
						t.Error(n, bound, id, slot, e)
					}
					a.slot(id)
				} else if bound == n {
					if slot, e := a.x.Bind(id); slot != 0 || e != api.ErrFull {
						t.Error(n, id, slot, e)
					}
					a.slot(id)
				}
				a.same(id)
			}
			for i := range bound {
				if slot, e := a.x.Bind(100 + i); slot != i+1 || e != api.OK {
					t.Error(n, bound, i, slot, e)
				}
			}
			a.same()
		}
	}
}

// TestEveryState: each small table in each state, with ids of several families; each id that is bound again, or new, gets the slot that it must.
func TestEveryState(t *testing.T) {
	for n := range 7 {
		for name, ids := range families(n + 2) {
			for gone := range 1 << n {
				for _, order := range [][]int{up(n), down(n)} {
					a := made(t, n)
					for _, id := range ids[:n] {
						a.bind(id)
					}
					for _, slot := range order {
						if gone>>(slot-1)&1 == 1 {
							a.free(slot)
							a.same(ids...)
						}
					}
					for i := range ids {
						a.bind(ids[(i+n)%len(ids)])
						a.same(ids...)
					}
					if a.x.Len() != n {
						t.Fatal(name, gone, a.x.Len())
					}
				}
			}
		}
	}
}

func up(n int) []int {
	l := make([]int, n)
	for i := range l {
		l[i] = i + 1
	}
	return l
}

func down(n int) []int {
	l := up(n)
	slices.Reverse(l)
	return l
}

// TestFreeOrder: in whatever order slots are freed, by one call or by several, the same ids get the same slots behind it.
func TestFreeOrder(t *testing.T) {
	const n = 5
	for name, ids := range families(2*n + 2) {
		for _, order := range permutations(n) {
			for calls := 1; calls <= n; calls++ {
				a := made(t, n+2)
				for _, id := range ids[:n+2] {
					a.bind(id)
				}
				for l := range slices.Chunk(order, calls) {
					if a.free(l...) != api.OK {
						t.Fatal(name, order, calls)
					}
					a.same(ids...)
				}
				for i, id := range ids[n+2:] {
					if slot := a.bind(id); slot != i+1 {
						t.Fatal(name, order, calls, id, slot)
					}
				}
				a.same(ids...)
			}
		}
	}
}

// TestFree: all lists of up to four numbers, of which some are no slots, some free, and some listed twice.
func TestFree(t *testing.T) {
	good := 0
	var each func(l []int)
	each = func(l []int) {
		a := made(t, 4)
		for id := 11; id < 15; id++ {
			a.bind(id)
		}
		a.free(2)
		before := a.x.Slots()
		if a.free(l...) == api.OK {
			good++
		} else if !slices.Equal(a.x.Slots(), before) {
			t.Error(l, a.x.Slots())
		}
		a.same(11, 12, 13, 14)
		for slot := -1; slot < 7 && len(l) < 4; slot++ {
			each(append(slices.Clone(l), slot))
		}
	}
	each(nil)
	if good != 1+3+6+6 { // none, one, two, and three of three slots, in each order
		t.Error(good)
	}
	a := made(t, 4)
	a.bind(11)
	for _, v := range strangers() {
		if a.x.Free(v) != api.ErrNone || a.x.Free(1, v) != api.ErrNone || a.x.Free(v, 1) != api.ErrNone {
			t.Error(v)
		}
		a.id(v)
	}
	a.same()
}

// TestAgain: a slot that was freed can be bound again, by the same id and by others, ever so often.
func TestAgain(t *testing.T) {
	for _, n := range []int{1, 2, 7} {
		a := made(t, n)
		for id := range n - 1 {
			a.bind(id + 1)
		}
		for i := range 3000 {
			id := 100 + i/2*2*n
			if a.bind(id) != n {
				t.Fatal(n, id)
			}
			a.bind(id + 1)
			a.free(n)
			a.slot(id)
			if i%100 == 0 {
				a.same(id)
			}
		}
		a.same(100)
	}
}

// TestMemory: a list of slots that is handed in is neither changed nor kept, and lists that are handed out are new.
func TestMemory(t *testing.T) {
	a := made(t, 6)
	for id := 1; id < 7; id++ {
		a.bind(id * 10)
	}
	l := []int{5, 2, 4, 1}
	for _, e := range []api.Errno{a.free(l[:2]...), a.free(l...), a.free(3, 3)} {
		if !slices.Equal(l, []int{5, 2, 4, 1}) {
			t.Error(e, l)
		}
	}
	for i := range l {
		l[i] = 3
	}
	a.same()
	x, y := a.x.Slots(), a.x.Slots()
	for i := range x[:cap(x)] {
		x[:cap(x)][i] = 77
	}
	if !slices.Equal(y, []int{1, 3, 4, 6}) {
		t.Error("Slots", y)
	}
	a.same()
	a.bind(90)
	if !slices.Equal(y, []int{1, 3, 4, 6}) {
		t.Error("Slots", y)
	}
}

// TestIndependent: two tables have nothing in common.
func TestIndependent(t *testing.T) {
	a, b := made(t, 3), made(t, 3)
	a.bind(7)
	b.bind(8)
	b.bind(7)
	a.same(7, 8)
	b.same(7, 8)
	a.free(1)
	a.same(7, 8)
	b.same(7, 8)
	b.free(1, 2)
	a.bind(8)
	a.same(7, 8)
	b.same(7, 8)
}

// TestGreatest: the greatest table, full of ids of each family, of which every third one is freed, and others take the slots.
func TestGreatest(t *testing.T) {
	for name, ids := range families(most) {
		t.Run(name, func(t *testing.T) {
			x, _ := names.New(most)
			for i, id := range ids {
				if slot, e := x.Bind(id); slot != i+1 || e != api.OK {
					t.Fatal(id, slot, e)
				}
			}
			if slot, e := x.Bind(other); slot != 0 || e != api.ErrFull {
				t.Fatal(slot, e)
			}
			var gone []int
			for slot := most; slot > 0; slot -= 3 {
				gone = append(gone, slot)
			}
			if e := x.Free(gone...); e != api.OK || x.Len() != most-len(gone) {
				t.Fatal(e, x.Len())
			}
			for i, id := range ids {
				slot, ok := x.Slot(id)
				if bound := i%3 != 2; ok != bound || ok && slot != i+1 {
					t.Fatal(id, slot, ok)
				}
			}
			for i := range gone {
				slot, e := x.Bind(other + i)
				if id, ok := x.ID(slot); slot != 3*i+3 || e != api.OK || id != other+i || !ok {
					t.Fatal(i, slot, e, id, ok)
				}
			}
			if e := x.Free(append(up(most), most)...); e != api.ErrNone || x.Len() != most {
				t.Fatal(e, x.Len())
			}
			if e := x.Free(down(most)...); e != api.OK || x.Len() != 0 || len(x.Slots()) != 0 {
				t.Fatal(e, x.Len())
			}
			if slot, e := x.Bind(ids[5]); slot != 1 || e != api.OK {
				t.Fatal(slot, e)
			}
		})
	}
}

// TestLong: long work by chance on tables of several sizes, held against the model.
func TestLong(t *testing.T) {
	for _, n := range []int{1, 2, 5, 17, 60} {
		t.Run(fmt.Sprint(n), func(t *testing.T) {
			r := rand.New(rand.NewSource(1))
			a := made(t, n)
			ids := slices.Concat(families(n)["steps of 1"], families(2 * n)["by chance"])
			for range 6000 {
				a.step(r, ids)
				a.same(ids...)
			}
		})
	}
}

// step makes one call, mostly with an id or with slots that exist.
func (a pair) step(r *rand.Rand, ids []int) {
	a.Helper()
	switch r.Intn(8) {
	case 0:
		a.bind(r.Intn(len(a.p)+4) - 2)
	case 1, 2, 3, 4:
		a.bind(ids[r.Intn(len(ids))])
	case 5, 6:
		l := a.p.slots()
		r.Shuffle(len(l), func(i, j int) { l[i], l[j] = l[j], l[i] })
		if r.Intn(20) > 0 {
			l = l[:min(len(l), r.Intn(4))]
		}
		a.free(l...)
	case 7:
		a.free(r.Intn(len(a.p)+4)-2, r.Intn(len(a.p)+4)-2)
	}
}
