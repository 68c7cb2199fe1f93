package second_test

import (
	"bytes"
	"fmt"
	"math"
	"math/rand"
	"slices"
	"testing"

	"webster/api"
	"webster/extent"
	"webster/second"
)

// model is a space in the plainest form, against which the package is held.
type model struct {
	owner []int // the object that has each sector, 0 for none
	objs  map[int]api.Obj
	made  int
}

// names returns the number of the object that the reference v names, and 0 if it names none.
func names(v int) int {
	if v > 0 && v < 1<<31 && v%2 == 0 {
		return v / 2
	}
	return 0
}

// right reports whether o is valid.
func right(o api.Obj) bool {
	if names(o.Class) == 0 {
		return false
	}
	if o.Kind == api.Bytes {
		return len(o.B) <= api.MaxWords && len(o.W) == 0
	}
	for _, v := range o.W {
		if odd := v%2 != 0 && v > -1<<31 && v < 1<<31; !odd && names(v) == 0 {
			return false
		}
	}
	return o.Kind == api.Words && len(o.W) <= api.MaxWords && len(o.B) == 0
}

// need returns the number of sectors that o takes: those of three words ahead, and of its words or bytes.
func need(o api.Obj) int {
	return (12 + 4*len(o.W) + len(o.B) + api.Sector - 1) / api.Sector
}

// equal reports whether two objects are equal field by field; a nil list and an empty one are.
func equal(a, b api.Obj) bool {
	return a.Class == b.Class && a.Kind == b.Kind && slices.Equal(a.W, b.W) && bytes.Equal(a.B, b.B)
}

func copied(o api.Obj) api.Obj {
	o.W, o.B = slices.Clone(o.W), slices.Clone(o.B)
	return o
}

// first returns the first n sectors side by side that are free, or the object left out has; -1 if there are none.
func (p *model) first(n, left int) int {
	run := 0
	for i, id := range p.owner {
		run++
		if id != 0 && id != left {
			run = 0
		}
		if run == n {
			return i - n + 1
		}
	}
	return -1
}

// give gives the object id n sectors from the index from on, and no other ones.
func (p *model) give(id, from, n int) {
	for i, x := range p.owner {
		if x == id {
			p.owner[i] = 0
		}
	}
	for i := from; i < from+n; i++ {
		p.owner[i] = id
	}
}

func (p *model) make(o api.Obj) (int, api.Errno) {
	if !right(o) {
		return 0, api.ErrArg
	}
	from := p.first(need(o), 0)
	if from < 0 || p.made == api.MaxIds {
		return 0, api.ErrFull
	}
	p.made++
	p.give(p.made, from, need(o))
	p.objs[p.made] = copied(o)
	return p.made, api.OK
}

func (p *model) store(id int, o api.Obj) api.Errno {
	old, ok := p.objs[id]
	if !ok {
		return api.ErrNone
	}
	if !right(o) {
		return api.ErrArg
	}
	if need(o) != need(old) {
		from := p.first(need(o), id)
		if from < 0 {
			return api.ErrFull
		}
		p.give(id, from, need(o))
	}
	p.objs[id] = copied(o)
	return api.OK
}

func (p *model) drop(ids ...int) api.Errno {
	for i, id := range ids {
		if _, ok := p.objs[id]; !ok || slices.Contains(ids[:i], id) {
			return api.ErrNone
		}
	}
	for _, id := range ids {
		p.give(id, 0, 0)
		delete(p.objs, id)
	}
	return api.OK
}

func (p *model) ids() []int {
	var l []int
	for id := range p.objs {
		l = append(l, id)
	}
	slices.Sort(l)
	return l
}

func (p *model) used() int {
	c := 0
	for _, id := range p.owner {
		if id != 0 {
			c++
		}
	}
	return c
}

// near goes over all objects again and again, till no further one is reached.
func (p *model) near(roots ...int) []int {
	in := map[int]bool{}
	for _, id := range roots {
		in[id] = true
	}
	for again := true; again; {
		again = false
		for id, o := range p.objs {
			for _, v := range append([]int{o.Class}, o.W...) {
				if to := names(v); in[id] && to != 0 && !in[to] {
					in[to] = true
					again = true
				}
			}
		}
	}
	return slices.DeleteFunc(p.ids(), func(id int) bool { return !in[id] })
}

// pair is a space beside the model that tells what it must answer.
type pair struct {
	*testing.T
	s *second.Space
	p *model
}

func made(t *testing.T, n int) pair {
	t.Helper()
	s, e := second.New(n)
	if s == nil || e != api.OK {
		t.Fatal("New", n, s, e)
	}
	return pair{t, s, &model{owner: make([]int, n), objs: map[int]api.Obj{}}}
}

// filled returns a space of n sectors that holds the objects l, which have the numbers from 1 on.
func filled(t *testing.T, n int, l ...api.Obj) pair {
	t.Helper()
	x := made(t, n)
	for i, o := range l {
		if id := x.make(o); id != i+1 {
			t.Fatal("Make", i, id)
		}
	}
	return x
}

func (x pair) make(o api.Obj) int {
	x.Helper()
	id, e := x.s.Make(o)
	if want, f := x.p.make(o); id != want || e != f {
		x.Fatal("Make", o, id, e, "want", want, f)
	}
	return id
}

func (x pair) fetch(id int) api.Obj {
	x.Helper()
	o, e := x.s.Fetch(id)
	want, ok := x.p.objs[id]
	if !ok && e != api.ErrNone || ok && e != api.OK || !equal(o, want) {
		x.Fatal("Fetch", id, o, e, "want", want, ok)
	}
	return o
}

func (x pair) store(id int, o api.Obj) {
	x.Helper()
	if e, want := x.s.Store(id, o), x.p.store(id, o); e != want {
		x.Fatal("Store", id, o, e, "want", want)
	}
}

func (x pair) drop(ids ...int) {
	x.Helper()
	if e, want := x.s.Drop(ids...), x.p.drop(ids...); e != want {
		x.Fatal("Drop", ids, e, "want", want)
	}
}

func (x pair) near(roots ...int) {
	x.Helper()
	if l, want := x.s.Near(roots...), x.p.near(roots...); !slices.Equal(l, want) {
		x.Fatal("Near", roots, l, "want", want)
	}
}

// same fails the test unless the space is what the model is.
func (x pair) same() {
	x.Helper()
	if x.s.Made() != x.p.made || x.s.Used() != x.p.used() || !slices.Equal(x.s.Ids(), x.p.ids()) {
		x.Fatal("Made", x.s.Made(), "Used", x.s.Used(), "Ids", x.s.Ids(), "want", x.p.made, x.p.used(), x.p.ids())
	}
	for _, id := range append(x.p.ids(), 0, -1, x.p.made+1) {
		if _, ok := x.p.objs[id]; x.s.Has(id) != ok {
			x.Fatal("Has", id, !ok)
		}
		x.fetch(id)
	}
}

// refused fails the test unless all calls refuse the number id, and change nothing.
func (x pair) refused(id int) {
	x.Helper()
	if x.s.Has(id) {
		x.Fatal("Has", id)
	}
	if o, e := x.s.Fetch(id); e != api.ErrNone || !equal(o, api.Obj{}) {
		x.Fatal("Fetch", id, o, e)
	}
	for _, o := range append(wrong(), words(2), some(2, api.MaxWords)) {
		if e := x.s.Store(id, o); e != api.ErrNone {
			x.Fatal("Store", id, o, e)
		}
	}
	l := x.p.ids()
	for _, l := range [][]int{{id}, {id, id}, append([]int{id}, l...), append(slices.Clone(l), id)} {
		if e := x.s.Drop(l...); e != api.ErrNone {
			x.Fatal("Drop", l, e)
		}
	}
	x.near(id)
	x.same()
}

// words returns an object of words.
func words(class int, w ...int) api.Obj { return api.Obj{Class: class, Kind: api.Words, W: w} }

// some returns an object of n bytes.
func some(class int, n int) api.Obj {
	b := make([]byte, n)
	for i := range b {
		b[i] = byte(7*i + n)
	}
	return api.Obj{Class: class, Kind: api.Bytes, B: b}
}

// sized returns an object that takes n sectors, of which the last one has room for no further word.
func sized(n int) api.Obj {
	w := make([]int, (n*api.Sector-12)/4)
	for i := range w {
		w[i] = 2*(i+n) + 1
	}
	return words(2, w...)
}

// wrong are objects that are not valid.
func wrong() []api.Obj {
	return []api.Obj{
		{}, {Class: 2}, {Class: 3, Kind: api.Words}, {Class: -2, Kind: api.Words}, {Kind: api.Words}, {Kind: api.Bytes}, {Class: 1 << 31, Kind: api.Bytes},
		{Class: 2, Kind: 3}, {Class: 2, Kind: -1}, {Class: 2, Kind: 1<<32 + 1},
		{Class: 2, Kind: api.Words, B: []byte{1}}, {Class: 2, Kind: api.Bytes, W: []int{1}},
		words(2, 0), words(2, -2), words(2, 4, 1<<31), words(2, 1<<31+1), words(2, -1<<31-1), words(2, math.MinInt),
		{Class: 2, Kind: api.Words, W: make([]int, api.MaxWords)}, some(2, api.MaxWords+1), words(2, slices.Repeat([]int{1}, api.MaxWords+1)...),
	}
}

// samples are valid objects of both kinds: ordinary ones, and those at the edges, of sizes and of sectors.
func samples() []api.Obj {
	l := []api.Obj{
		words(6, 3, 8), words(2), {Class: 2, Kind: api.Words, W: []int{}, B: []byte{}}, {Class: 4, Kind: api.Bytes, W: []int{}},
		words(1<<31-2, 1<<31-2, 1<<31-1, -1<<31+1, 1, 2, -1), {Class: 1<<31 - 2, Kind: api.Bytes, B: []byte{0, 255, 128, 0, 0}},
		words(2, slices.Repeat([]int{-1}, api.MaxWords)...), words(4, slices.Repeat([]int{2}, api.MaxWords-1)...), {Class: 2, Kind: api.Bytes, B: make([]byte, api.MaxWords)},
	}
	for _, n := range []int{0, 1, 51, 52, 53, 115, 116, 117, 255, 256, api.MaxWords - 1, api.MaxWords} {
		l = append(l, some(8, n))
	}
	for _, n := range []int{12, 13, 14, 28, 29, 30, 45, 46} {
		l = append(l, words(8, slices.Repeat([]int{5}, n)...))
	}
	return l
}

// strangers are numbers that differ from id; some would be like it in another kind of integer.
func strangers(id int) []int {
	return []int{
		-id, ^id, id + 1<<8, id + 1<<16, id + 1<<20, id + 1<<30, id + 1<<31, id + 1<<32, id - 1<<32, id + 1<<62, id + math.MinInt,
		0, -1, api.MaxIds, api.MaxIds + 1, math.MaxInt, math.MinInt,
	}
}

// TestNew: the sizes are those of extents, and so is the error.
func TestNew(t *testing.T) {
	for _, n := range []int{0, 1, 2, 3, api.Sector, 1000, api.MaxSectors - 1, api.MaxSectors} {
		made(t, n).same()
	}
	for _, n := range []int{-1, -2, -api.MaxSectors, api.MaxSectors + 1, api.MaxBits, api.MaxBits + 1, 1 << 32, 1<<32 + 1, 1 << 58, math.MaxInt, math.MinInt} {
		_, want := extent.New(n)
		if s, e := second.New(n); s != nil || e != want || e != api.ErrArg {
			t.Error("New", n, s, e, want)
		}
	}
}

func TestExample(t *testing.T) {
	s, e := second.New(8)
	if e != api.OK {
		t.Fatal(e)
	}
	a, e := s.Make(words(2))
	b, f := s.Make(words(2, 3))
	if a != 1 || b != 2 || e != api.OK || f != api.OK {
		t.Fatal(a, b, e, f)
	}
	if e := s.Drop(2); e != api.OK {
		t.Fatal(e)
	}
	if c, e := s.Make(some(2, 4)); c != 3 || e != api.OK || !slices.Equal(s.Ids(), []int{1, 3}) || s.Made() != 3 || s.Used() != 2 {
		t.Error(c, e, s.Ids(), s.Made(), s.Used())
	}
}

// TestNil: the calls on a nil space, with good arguments and with bad ones.
func TestNil(t *testing.T) {
	var s *second.Space
	if len(s.Ids()) != 0 || s.Made() != 0 || s.Used() != 0 || len(s.Near()) != 0 || len(s.Near(1, 2, 1)) != 0 {
		t.Error(s.Ids(), s.Made(), s.Used(), s.Near(1))
	}
	for _, o := range append(wrong(), samples()...) {
		if id, e := s.Make(o); id != 0 || e != api.ErrNil {
			t.Error("Make", o, id, e)
		}
		for _, id := range append(strangers(1), 1) {
			if e := s.Store(id, o); e != api.ErrNil {
				t.Error("Store", id, o, e)
			}
		}
	}
	if e := s.Drop(); e != api.ErrNil {
		t.Error("Drop", e)
	}
	for _, id := range append(strangers(1), 1) {
		if o, e := s.Fetch(id); !equal(o, api.Obj{}) || e != api.ErrNil || s.Has(id) {
			t.Error("Fetch", id, o, e)
		}
		if s.Drop(id) != api.ErrNil || s.Drop(id, id) != api.ErrNil {
			t.Error("Drop", id, s.Drop(id))
		}
	}
}

// TestEmpty: a space without sectors has room for no object; one that New did not make takes none either, and no call on it panics.
func TestEmpty(t *testing.T) {
	x := made(t, 0)
	for _, o := range append(wrong(), samples()...) {
		if id := x.make(o); id != 0 {
			t.Error(id)
		}
	}
	x.drop()
	x.near()
	for _, id := range append(strangers(1), 1) {
		x.refused(id)
	}
	s := new(second.Space)
	for _, o := range append(wrong(), samples()...) {
		if id, e := s.Make(o); id != 0 || e == api.OK {
			t.Error(id, e)
		}
	}
	s.Drop()
	if s.Drop(1) != api.ErrNone || s.Store(1, words(2)) != api.ErrNone || s.Has(1) || len(s.Ids()) != 0 || s.Made() != 0 || s.Used() != 0 || len(s.Near(0, 1)) != 0 {
		t.Error("a space that New did not make")
	}
}

// TestObjects: each sample is fetched as it was made, also when another one stood there before, and as it was stored in place of any other one.
func TestObjects(t *testing.T) {
	l := samples()
	x := filled(t, 1000, l...)
	x.same()
	for i, o := range l {
		for j, p := range l {
			x.store(i+1, p)
			if got := x.fetch(i + 1); !equal(got, p) {
				t.Fatal(j, got, p)
			}
			x.store(i+1, o)
		}
	}
	x.same()
	for i, o := range l {
		x.drop(i + 1)
		if id := x.make(o); id != len(l)+i+1 {
			t.Fatal(i, id)
		}
	}
	x.same()
}

// TestUsed: an object takes the sectors that its encoding fills or begins, and leaves all of them.
func TestUsed(t *testing.T) {
	for _, c := range []struct {
		o    api.Obj
		want int
	}{
		{words(2), 1}, {some(2, 0), 1}, {some(2, 52), 1}, {some(2, 53), 2}, {some(2, 116), 2}, {some(2, 117), 3}, {some(2, api.MaxWords), 16},
		{words(2, slices.Repeat([]int{1}, 13)...), 1}, {words(2, slices.Repeat([]int{1}, 14)...), 2}, {words(2, slices.Repeat([]int{2}, api.MaxWords)...), 63},
	} {
		x := made(t, 70)
		id := x.make(c.o)
		if x.s.Used() != c.want {
			t.Error(c.o, x.s.Used(), c.want)
		}
		x.store(id, words(2))
		if x.s.Used() != 1 {
			t.Error(c.o, x.s.Used())
		}
		x.store(id, c.o)
		if x.s.Used() != c.want {
			t.Error(c.o, x.s.Used(), c.want)
		}
		x.drop(id)
		if x.s.Used() != 0 {
			t.Error(c.o, x.s.Used())
		}
	}
}

// TestNumbers: each new object has the number behind that of the last one, whichever were dropped, and an object that is refused takes none.
func TestNumbers(t *testing.T) {
	x := made(t, 3)
	for want := 1; want < 60; want += 3 {
		for i := range 3 {
			for _, o := range wrong() {
				x.make(o)
			}
			x.make(sized(4))
			if id := x.make(words(2, 2*want+1)); id != want+i {
				t.Fatal(want, i, id)
			}
			x.same()
		}
		x.make(words(2))
		switch want % 3 {
		case 0:
			x.drop(want+2, want, want+1)
		case 1:
			x.drop(want + 1)
			x.drop(want)
			x.drop(want + 2)
		default:
			x.drop(want, want+1, want+2)
		}
		for id := range want + 3 {
			x.refused(id)
		}
	}
}

// TestMakeErrors: an object that is not valid is told ahead of the room.
func TestMakeErrors(t *testing.T) {
	for _, x := range []pair{made(t, 0), made(t, 5), filled(t, 1, words(2, 9)), filled(t, 2, sized(2)), filled(t, 70, some(4, 3))} {
		for _, o := range wrong() {
			if id, e := x.s.Make(o); id != 0 || e != api.ErrArg {
				t.Fatal(o, id, e)
			}
			x.same()
		}
	}
	x := filled(t, 3, words(2), words(4), words(6))
	if id, e := x.s.Make(words(2)); id != 0 || e != api.ErrFull {
		t.Error(id, e)
	}
	x.drop(1)
	x.drop(3)
	if id, e := x.s.Make(sized(2)); id != 0 || e != api.ErrFull {
		t.Error("not side by side", id, e)
	}
	x.same()
	x.drop(2)
	if id, e := x.s.Make(sized(4)); id != 0 || e != api.ErrFull {
		t.Error(id, e)
	}
	if id, e := x.s.Make(sized(3)); id != 4 || e != api.OK {
		t.Error(id, e)
	}
}

// TestStoreErrors: a number that is none is told ahead of an object that is not valid, and this ahead of the room; nothing changes then.
func TestStoreErrors(t *testing.T) {
	x := filled(t, 6, sized(1), sized(2), sized(1), sized(2))
	x.drop(3)
	for _, id := range []int{1, 2, 4} {
		for _, o := range wrong() {
			if e := x.s.Store(id, o); e != api.ErrArg {
				t.Fatal(id, o, e)
			}
		}
		for _, n := range []int{4, 5, 6, 7, 60} {
			if e := x.s.Store(id, sized(n)); e != api.ErrFull {
				t.Fatal(id, n, e)
			}
		}
		x.same()
	}
	if e := x.s.Store(1, sized(2)); e != api.ErrFull {
		t.Error(e)
	}
	for _, id := range []int{3, 5, 0, -1} {
		x.refused(id)
	}
	x.store(4, sized(3))
	x.store(2, sized(1))
	x.store(1, sized(2))
	x.same()
}

// TestStoreEverywhere: in every state of the sectors around it, an object of each size is replaced by one of each size.
func TestStoreEverywhere(t *testing.T) {
	const n = 5
	for holes := range 1 << n {
		for size := 1; size <= 3; size++ {
			for next := 1; next <= n+size; next++ {
				x := made(t, n-1+size)
				id := 0
				var l []int
				for i := range n {
					o := sized(1)
					if i == n/2 {
						o = sized(size)
					}
					y := x.make(o)
					if i == n/2 {
						id = y
					} else if holes>>i&1 == 1 {
						l = append(l, y)
					}
				}
				x.drop(l...)
				x.store(id, sized(next))
				x.same()
				for x.make(words(2)) != 0 {
				}
				x.same()
			}
		}
	}
}

// TestStoreSame: an object that is stored again, as it is or as it was fetched, is the same one.
func TestStoreSame(t *testing.T) {
	for _, o := range samples() {
		x := filled(t, 63, o)
		used := x.s.Used()
		x.store(1, o)
		x.store(1, x.fetch(1))
		if x.s.Used() != used {
			t.Error(o, used, x.s.Used())
		}
		x.same()
	}
}

func TestDrop(t *testing.T) {
	for _, ids := range [][]int{
		nil, {}, {1}, {2}, {4}, {1, 2}, {2, 1}, {4, 1}, {2, 3}, {1, 2, 3, 4}, {4, 3, 2, 1},
		{1, 1}, {1, 2, 1}, {2, 2, 3}, {1, 2, 3, 4, 4}, {4, 3, 3, 4},
		{5}, {5, 1}, {1, 5}, {1, 5, 2}, {1, 2, 3, 4, 5}, {5, 5}, {6}, {6, 1}, {1, 6}, {0}, {0, 4}, {4, 0}, {-1, 1}, {1, -1},
		{1 << 32, 1}, {1, 1<<32 + 1}, {math.MaxInt}, {math.MinInt, 2}, {2, math.MaxInt},
	} {
		x := filled(t, 12, words(2, 3), sized(2), some(4, 9), sized(3), words(2))
		x.drop(5)
		x.drop(ids...)
		x.same()
		x.drop(ids...)
		x.same()
		x.make(sized(2))
		x.make(sized(3))
		x.same()
		x.drop(x.s.Ids()...)
		x.same()
		x.make(sized(12))
		x.same()
	}
}

// TestNone: numbers that were never given, and those of dropped objects, are refused by all calls.
func TestNone(t *testing.T) {
	x := filled(t, 20, samples()[:6]...)
	x.drop(2, 5)
	for _, id := range []int{0, 2, 5, 7, 8, -1, -4} {
		x.refused(id)
	}
	for _, id := range x.s.Ids() {
		for _, n := range strangers(id) {
			x.refused(n)
		}
	}
	x.make(words(2))
	x.refused(2)
	x.refused(5)
}

// TestIds: all numbers, in ascending order, however many there are, and in whatever order they came and went.
func TestIds(t *testing.T) {
	x := made(t, 400)
	for range 400 {
		x.make(words(2))
	}
	x.same()
	for k := range 400 {
		if id := 1 + k*171%400; id%4 != 0 {
			x.drop(id)
		}
	}
	x.same()
	for range 100 {
		x.make(some(2, 40))
	}
	x.same()
}

// TestNear: what is reachable in a small space, by words and by classes, with rings, and over numbers that name nothing.
func TestNear(t *testing.T) {
	x := filled(t, 40,
		words(2, 4),                // 1 names itself as its class, and 2
		words(6),                   // 2 names 3 as its class
		words(6, 6, 6, 1, -1, 3),   // 3 names itself
		words(6, 8, 10),            // 4 names 3, itself and 5
		words(10, 8),               // 5 names itself and 4
		some(14, 30),               // 6 names 7 as its class, and nothing by its bytes
		words(1000, 2000, 1<<31-2), // 7 names numbers that were never given
		words(16, 18, 4, 18),       // 8 names itself, 9, 2 and 9
		words(20),                  // 9 names 10, which is dropped
		words(2),
	)
	x.drop(10)
	x.s.Make(wrong()[0])
	for _, c := range []struct{ roots, want []int }{
		{nil, nil}, {[]int{}, nil}, {[]int{0}, nil}, {[]int{10}, nil}, {[]int{11, -1, math.MaxInt, math.MinInt}, nil},
		{[]int{1}, []int{1, 2, 3}}, {[]int{2}, []int{2, 3}}, {[]int{3}, []int{3}}, {[]int{3, 3, 3}, []int{3}},
		{[]int{4}, []int{3, 4, 5}}, {[]int{5}, []int{3, 4, 5}}, {[]int{5, 4}, []int{3, 4, 5}}, {[]int{6}, []int{6, 7}}, {[]int{7}, []int{7}},
		{[]int{8}, []int{2, 3, 8, 9}}, {[]int{9}, []int{9}}, {[]int{9, 10}, []int{9}}, {[]int{10, 9}, []int{9}}, {[]int{7, 1, 10, 7}, []int{1, 2, 3, 7}},
		{[]int{6, 5, 1}, []int{1, 2, 3, 4, 5, 6, 7}}, {[]int{9, 8, 7, 6, 5, 4, 3, 2, 1}, []int{1, 2, 3, 4, 5, 6, 7, 8, 9}}, {[]int{8, 6, 4, 1}, []int{1, 2, 3, 4, 5, 6, 7, 8, 9}},
	} {
		if l := x.s.Near(c.roots...); !slices.Equal(l, c.want) {
			t.Error(c, l)
		}
		x.near(c.roots...)
	}
	x.same()
}

// TestNearNow: what is reachable changes with what is made, stored and dropped.
func TestNearNow(t *testing.T) {
	x := filled(t, 20, words(2, 4, 6), words(2), words(2, 8), some(2, 5))
	x.near(1)
	x.store(1, words(2, 4))
	x.near(1)
	x.store(2, words(2, 6, 10))
	x.near(1)
	x.make(words(2, 12))
	x.near(1)
	x.drop(3)
	x.near(1)
	x.make(words(8))
	x.near(1)
	x.drop(1)
	x.near(1)
	x.near(2)
	x.store(2, some(10, 6))
	x.near(2, 1)
	x.same()
}

// TestNearAll: all graphs of three objects with one class and one word each, one of which may be missing, from each set of roots.
func TestNearAll(t *testing.T) {
	for c := range 1 << 12 {
		o := func(i int) api.Obj { return words(2+2*(c>>(4*i)&3), 2+2*(c>>(4*i+2)&3)) }
		x := filled(t, 3, o(0), o(1), o(2))
		if c%5 == 0 {
			x.drop(1 + c%3)
		}
		for roots := range 8 {
			var l []int
			for i := range 3 {
				if roots>>i&1 == 1 {
					l = append(l, 3-i)
				}
			}
			x.near(l...)
		}
	}
}

// TestNearFar: the longest chain that a space has room for, from its ends and its middle, and one object that names as many as it can.
func TestNearFar(t *testing.T) {
	s, _ := second.New(api.MaxSectors)
	const n = api.MaxSectors
	for id := 1; id <= n; id++ {
		if got, e := s.Make(words(2*n, min(2*id+2, 2*n))); got != id || e != api.OK {
			t.Fatal(id, got, e)
		}
	}
	for _, from := range []int{1, 2, n / 2, n - 1, n} {
		l := s.Near(n, from, n+1, n)
		if len(l) != n-from+1 || l[0] != from || !slices.IsSorted(l) || l[len(l)-1] != n {
			t.Error(from, len(l))
		}
	}
	all := s.Ids()
	if l := s.Near(append(all, all...)...); !slices.Equal(l, all) {
		t.Error(len(l))
	}
	if e := s.Drop(all[5000:]...); e != api.OK {
		t.Fatal(e)
	}
	var w []int
	for i := range api.MaxWords {
		w = append(w, 2*(4*i+1))
	}
	id, e := s.Make(words(2*n+2, w...))
	if id != n+1 || e != api.OK {
		t.Fatal(id, e)
	}
	if e := s.Drop(all[:2000]...); e != api.OK {
		t.Fatal(e)
	}
	if l := s.Near(id); len(l) != 3001 || l[0] != 2001 || l[2999] != 5000 || l[3000] != id {
		t.Error(len(l))
	}
}

// TestMaxIds: as many objects as may ever be made, and not one more, though there is room.
func TestMaxIds(t *testing.T) {
	s, _ := second.New(2)
	for id := 1; id <= api.MaxIds; id++ {
		got, e := s.Make(words(2))
		if got != id || e != api.OK {
			t.Fatal(id, got, e)
		}
		if id == api.MaxIds {
			break
		}
		if e := s.Drop(id); e != api.OK {
			t.Fatal(id, e)
		}
	}
	for range 3 {
		if id, e := s.Make(words(2)); id != 0 || e != api.ErrFull || s.Made() != api.MaxIds {
			t.Fatal(id, e, s.Made())
		}
		if id, e := s.Make(api.Obj{}); id != 0 || e != api.ErrArg {
			t.Fatal(id, e)
		}
	}
	if e := s.Store(api.MaxIds, sized(2)); e != api.OK || s.Used() != 2 || !slices.Equal(s.Ids(), []int{api.MaxIds}) || !slices.Equal(s.Near(api.MaxIds), []int{api.MaxIds}) {
		t.Error(e, s.Used(), s.Ids())
	}
	if e := s.Drop(api.MaxIds); e != api.OK || s.Used() != 0 {
		t.Error(e, s.Used())
	}
	if id, e := s.Make(words(2)); id != 0 || e != api.ErrFull || s.Made() != api.MaxIds {
		t.Error(id, e, s.Made())
	}
}

// TestGreatest: the greatest space, full of the smallest objects, and of the greatest ones.
func TestGreatest(t *testing.T) {
	s, _ := second.New(api.MaxSectors)
	for i := range api.MaxSectors {
		if id, e := s.Make(words(2, 2*i+1)); id != i+1 || e != api.OK {
			t.Fatal(i, id, e)
		}
	}
	if id, e := s.Make(words(2)); id != 0 || e != api.ErrFull || s.Used() != api.MaxSectors {
		t.Fatal(id, e)
	}
	l := s.Ids()
	if len(l) != api.MaxSectors || s.Drop(append(l, 7)...) != api.ErrNone || s.Used() != api.MaxSectors || s.Drop(l...) != api.OK || s.Used() != 0 {
		t.Fatal(len(l), s.Used())
	}
	o := words(4, slices.Repeat([]int{-3}, api.MaxWords)...)
	for n := range api.MaxSectors / 63 {
		if id, e := s.Make(o); id != api.MaxSectors+n+1 || e != api.OK {
			t.Fatal(n, id, e)
		}
	}
	if id, e := s.Make(o); id != 0 || e != api.ErrFull {
		t.Fatal(id, e)
	}
	for _, id := range s.Ids() {
		if got, e := s.Fetch(id); e != api.OK || !equal(got, o) {
			t.Fatal(id, e)
		}
	}
}

// wipe changes all that o has, its spare capacity too.
func wipe(o api.Obj) {
	for i := range o.W[:cap(o.W)] {
		o.W[:cap(o.W)][i] = 98
	}
	for i := range o.B[:cap(o.B)] {
		o.B[:cap(o.B)][i] = 0xee
	}
}

// TestMemory: what is handed in or out, and is changed then, changes nothing in the space; what is handed in is not changed.
func TestMemory(t *testing.T) {
	for _, o := range samples() {
		x := made(t, 130)
		in := copied(o)
		id := x.make(in)
		if !equal(in, o) {
			t.Fatal("changed", in, o)
		}
		wipe(in)
		x.same()
		in = copied(o)
		x.store(id, in)
		if !equal(in, o) {
			t.Fatal("changed", in, o)
		}
		wipe(in)
		x.same()

		a, b := x.fetch(id), x.fetch(id)
		wipe(a)
		if !equal(b, o) {
			t.Fatal("two answers share memory", o)
		}
		x.same()
		_ = append(b.W, 1, 2, 3)
		_ = append(b.B, 1, 2, 3)
		x.same()
	}
}

// TestMemoryOfLists: lists of numbers that are handed in are neither changed nor kept, and those that are handed out are new.
func TestMemoryOfLists(t *testing.T) {
	x := filled(t, 9, words(2, 4), words(2, 8), words(6), words(2), words(4, 10))
	for _, l := range [][]int{{5, 3, 1, 5, 9, 2}, {1}, {3, 2, 3}, {9, 8}} {
		was := slices.Clone(l)
		near := x.s.Near(l...)
		if !slices.Equal(l, was) {
			t.Fatal("Near", l, was)
		}
		for i := range near[:cap(near)] {
			near[:cap(near)][i] = 77
		}
		if !slices.Equal(l, was) {
			t.Fatal("Near shares", l, was)
		}
		x.near(l...)
	}
	a, b := x.s.Ids(), x.s.Ids()
	for i := range a[:cap(a)] {
		a[:cap(a)][i] = 77
	}
	if !slices.Equal(b, []int{1, 2, 3, 4, 5}) {
		t.Error("Ids", b)
	}
	x.same()
	for _, l := range [][]int{{5, 1, 5}, {2, 1, 6}, {4, 2}} {
		was := slices.Clone(l)
		x.drop(l...)
		if !slices.Equal(l, was) {
			t.Error("Drop", l, was)
		}
		for i := range l {
			l[i] = 1
		}
		x.same()
	}
}

// TestIndependent: two spaces have nothing in common, not even their numbers.
func TestIndependent(t *testing.T) {
	a, b := filled(t, 4, words(2), sized(2)), made(t, 4)
	b.refused(1)
	if id := b.make(some(2, 3)); id != 1 {
		t.Error(id)
	}
	a.same()
	a.store(1, words(4, 3))
	a.drop(2)
	b.same()
	b.drop(1)
	a.same()
	b.same()
}

// TestUndone: what is made and dropped again, in any order, leaves all room as it was.
func TestUndone(t *testing.T) {
	for order := range 24 {
		x := filled(t, 14, sized(1), sized(3), sized(1), sized(4), sized(2))
		x.drop(2)
		x.drop(4)
		used := x.s.Used()
		var l []int
		for n := 1; n <= 4; n++ {
			if id := x.make(sized(n)); id != 0 {
				l = append(l, id)
			}
		}
		for k := order; len(l) > 0; k /= 4 {
			i := k % len(l)
			x.drop(l[i])
			l = slices.Delete(l, i, i+1)
			x.same()
		}
		if x.s.Used() != used || x.make(sized(5)) != 0 || x.make(sized(4)) == 0 {
			t.Error(order, x.s.Used(), used)
		}
	}
}

// TestLong: long work by chance on spaces of several sizes, held against the model.
func TestLong(t *testing.T) {
	for _, n := range []int{1, 2, 5, 17, 60} {
		t.Run(fmt.Sprint(n), func(t *testing.T) {
			r := rand.New(rand.NewSource(1))
			x := made(t, n)
			for range 3000 {
				x.step(r)
				x.same()
			}
		})
	}
}

// step makes one call, mostly on objects that exist.
func (x pair) step(r *rand.Rand) {
	x.Helper()
	pick := func() int {
		if l := x.p.ids(); len(l) > 0 && r.Intn(6) > 0 {
			return l[r.Intn(len(l))]
		}
		return r.Intn(x.p.made + 3)
	}
	o := some(2*(1+pick()), r.Intn(200))
	switch r.Intn(8) {
	case 0:
		o = wrong()[r.Intn(len(wrong()))]
	case 1, 2, 3, 4:
		o = words(2 * (1 + pick()))
		for range r.Intn(60) {
			o.W = append(o.W, 2*max(1, pick())+r.Intn(2))
		}
	}
	switch r.Intn(8) {
	case 0, 1, 2:
		x.make(o)
	case 3, 4:
		x.store(pick(), o)
	case 5:
		x.near(pick(), pick())
	case 6:
		x.drop(pick())
	case 7:
		x.drop(pick(), pick(), pick())
	}
}
