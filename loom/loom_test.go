package loom_test

import (
	"bytes"
	"math"
	"math/rand"
	"slices"
	"testing"

	"webster/api"
	"webster/flat"
	"webster/loom"
	"webster/second"
	"webster/wide"
	"webster/word"
)

const maxNumber = 1<<30 - 1 // the greatest number of an object that a reference names

func same(a, b api.Obj) bool {
	return a.Class == b.Class && a.Kind == b.Kind && slices.Equal(a.W, b.W) && bytes.Equal(a.B, b.B)
}

// number returns the reference of a small integer.
func number(n int) int {
	return 2*n + 1
}

// pair is a paged memory beside a flat one, which tells what it must answer, and a space with objects of the same sizes, which tells when a disk of so many sectors is full.
type pair struct {
	*testing.T
	m     *loom.Memory
	p     *flat.Memory
	s     *second.Space
	words int
	slots int
}

func made(t *testing.T, sectors, words, slots int) pair {
	t.Helper()
	m, e := loom.New(sectors, words, slots)
	s, err := second.New(sectors)
	if m == nil || e != api.OK || err != api.OK {
		t.Fatal("New", sectors, words, slots, e, err)
	}
	return pair{t, m, flat.New(), s, words, slots}
}

// sound fails the test unless the memory is consistent, and what it has at hand has room there.
func (a pair) sound() {
	a.Helper()
	n, bound, changed := a.m.Hand()
	if !a.m.Sound() || n < 0 || n > bound || bound > a.slots || changed < 0 || changed > n {
		a.Fatal("not sound: Hand", n, bound, changed, "of", a.words, a.slots, a.m.Sound())
	}
}

// hand fails the test unless so many objects are at hand, so many slots not free, and so many objects changed.
func (a pair) hand(residents, bound, changed int) {
	a.Helper()
	a.sound()
	if x, y, z := a.m.Hand(); x != residents || y != bound || z != changed {
		a.Fatal("Hand", x, y, z, "want", residents, bound, changed)
	}
}

// fits reports whether the object has room if nothing else is at hand.
func (a pair) fits(o int) bool {
	x, e := a.p.Obj(o)
	if e != api.OK {
		return false
	}
	return a.slots > 0 && len(x.W)+(len(x.B)+1)/2 <= a.words
}

func (a pair) create(class, kind, size int) int {
	a.Helper()
	want, err := 0, api.ErrArg
	if x, ok := flat.Blank(class, kind, size); ok {
		if _, err = a.s.Make(x); err == api.OK {
			want, err = a.p.New(class, kind, size)
		}
	}
	if o, e := a.m.New(class, kind, size); o != want || e != err {
		a.Fatal("New", class, kind, size, o, e, "want", want, err)
	}
	a.sound()
	return want
}

func (a pair) get(o, kind, i int) api.Errno {
	a.Helper()
	f, g := a.m.Fetch, a.p.Fetch
	if kind == api.Bytes {
		f, g = a.m.Byte, a.p.Byte
	}
	want, err := g(o, i)
	if err == api.OK && !a.fits(o) {
		want, err = 0, api.ErrFull
	}
	if v, e := f(o, i); v != want || e != err {
		a.Fatal("get", o, kind, i, v, e, "want", want, err)
	}
	a.sound()
	return err
}

func (a pair) set(o, kind, i, v int) api.Errno {
	a.Helper()
	f, g, look, may := a.m.Set, a.p.Set, a.p.Fetch, flat.Ref(v)
	if kind == api.Bytes {
		f, g, look, may = a.m.SetByte, a.p.SetByte, a.p.Byte, v >= 0 && v <= 255
	}
	_, want := look(o, i)
	switch {
	case want != api.OK:
	case may && !a.fits(o):
		want = api.ErrFull
	default:
		want = g(o, i, v)
	}
	if e := f(o, i, v); e != want {
		a.Fatal("set", o, kind, i, v, e, "want", want)
	}
	a.sound()
	return want
}

func (a pair) become(x, y int) api.Errno {
	a.Helper()
	want := a.exchange(x, y)
	if want == api.OK {
		want = a.p.Become(x, y)
	}
	if e := a.m.Become(x, y); e != want {
		a.Fatal("Become", x, y, e, "want", want)
	}
	a.sound()
	return want
}

// exchange lets two objects of the space that tells whether there is room change places, the one that grows first.
func (a pair) exchange(x, y int) api.Errno {
	o, e := a.p.Obj(x)
	q, err := a.p.Obj(y)
	if e != api.OK || err != api.OK {
		return api.ErrNone
	}
	b, _ := wide.Encode(o)
	c, _ := wide.Encode(q)
	if len(b) > len(c) {
		x, y, o, q = y, x, q, o
	}
	if e := a.s.Store(x/2, q); e != api.OK {
		return e
	}
	return a.s.Store(y/2, o)
}

func (a pair) next(o int) {
	a.Helper()
	want, has := a.p.Next(o)
	if n, ok := a.m.Next(o); n != want || ok != has {
		a.Fatal("Next", o, n, ok, "want", want, has)
	}
}

func (a pair) collect(roots ...int) int {
	a.Helper()
	before := flat.All(a.p)
	want, _ := a.p.Collect(roots...)
	for _, o := range before {
		if _, e := a.p.Obj(o); e != api.OK {
			a.s.Drop(o / 2)
		}
	}
	if n, e := a.m.Collect(roots...); n != want || e != api.OK {
		a.Fatal("Collect", roots, n, e, "want", want)
	}
	a.sound()
	return want
}

func (a pair) evict(l ...int) api.Errno {
	a.Helper()
	want := api.OK
	for _, o := range l {
		if _, e := a.p.Obj(o); e != api.OK {
			want = api.ErrNone
		}
	}
	if e := a.m.Evict(l...); e != want {
		a.Fatal("Evict", l, e, "want", want)
	}
	a.sound()
	return want
}

func (a pair) sweep(n int) int {
	a.Helper()
	before, _, _ := a.m.Hand()
	swept := a.m.Sweep(n)
	if after, _, _ := a.m.Hand(); swept != max(0, min(n, before)) || after != before-swept {
		a.Fatal("Sweep", n, swept, before, after)
	}
	a.sound()
	return swept
}

// is fails the test unless the object that o names, if any, is that of the flat memory.
func (a pair) is(o int) {
	a.Helper()
	n, bound, _ := a.m.Hand()
	want, err := a.p.Obj(o)
	if got, e := a.m.Obj(o); e != err || !same(got, want) {
		a.Fatal("object", o, got, e, "want", want, err)
	}
	if x, y, _ := a.m.Hand(); x != n || y != bound {
		a.Fatal("Obj made an object at hand, or let one go", o)
	}
	a.sound()
}

// same fails the test unless the memory is what the flat one is.
func (a pair) same() {
	a.Helper()
	if n, s := a.m.Made(), a.p.Made(); n != s {
		a.Fatal("Made", n, "want", s)
	}
	if l, k := flat.All(a.m), flat.All(a.p); !slices.Equal(l, k) {
		a.Fatal("All", l, "want", k)
	}
	for o := -3; o < 2*a.p.Made()+6; o++ {
		a.is(o)
		a.next(o)
		n, e := flat.Size(a.p, o)
		if e != api.OK {
			continue
		}
		for _, i := range []int{-1, 0, n / 2, n - 1, n} {
			a.get(o, api.Words, i)
			a.get(o, api.Bytes, i)
		}
		a.is(o)
	}
}

// strangers are numbers that are neither references of a small memory nor indexes of a small object; some would be one in another kind of integer.
func strangers() []int {
	return []int{
		-1, -2, -3, 0, -1 << 16, 1<<16 + 2, api.Lambda, 1 << 31, 1<<31 - 2, 1<<31 + 2, 1 << 32, 1<<32 + 2, 1<<32 + 1, -1 << 32, 2 - 1<<32, 1 << 62, 1<<62 + 2,
		2 * maxNumber, 2*maxNumber + 2, 4 * maxNumber, math.MaxInt, math.MaxInt - 1, math.MinInt, math.MinInt + 1, math.MinInt + 2,
	}
}

// rooms are numbers of words and slots: for nothing, for some objects of small memories, for one object at a time, for some, for all.
func rooms() [][2]int {
	return [][2]int{{0, 0}, {0, 4}, {4, 0}, {1, 1}, {2, 1}, {3, 1}, {3, 2}, {4, 2}, {3, 9}, {4, 3}, {5, 3}, {7, 4}, {9, 1}, {100, 5}, {100, 100}}
}

// small is a memory with an object of three words, one of two bytes, one without words, one without bytes, and a gap where one was removed.
func small(t *testing.T, words, slots int) pair {
	t.Helper()
	a := made(t, 30, words, slots)
	x := a.create(2, api.Words, 3)
	y := a.create(2, api.Bytes, 2)
	a.create(2, api.Words, 0)
	z := a.create(2, api.Words, 0)
	w := a.create(4, api.Bytes, 0)
	a.set(x, api.Words, 1, y)
	a.set(x, api.Words, 2, -7)
	a.set(y, api.Bytes, 0, 200)
	if a.collect(x, z, w, y) != 1 {
		t.Fatal("small")
	}
	a.same()
	return a
}

func TestNew(t *testing.T) {
	ends := func(greatest int) []int {
		return append(strangers(), 1, 2, 64, greatest-1, greatest, greatest+1, greatest+2, 2*greatest, 1<<32+greatest, -greatest)
	}
	check := func(sectors, words, slots int) {
		may := sectors >= 0 && sectors <= api.MaxSectors && words >= 0 && words <= api.MaxHeap && slots >= 0 && slots <= 16383
		m, e := loom.New(sectors, words, slots)
		switch {
		case may && (m == nil || e != api.OK):
			t.Error(sectors, words, slots, e)
		case !may && (m != nil || e != api.ErrArg):
			t.Error(sectors, words, slots, m, e)
		case may:
			x, y, z := m.Hand()
			if _, ok := m.Next(0); ok || m.Made() != 0 || x != 0 || y != 0 || z != 0 || !m.Sound() {
				t.Error(sectors, words, slots, "not empty")
			}
		}
	}
	for _, n := range ends(api.MaxSectors) {
		check(n, 1, 1)
		check(n, -1, 1)
	}
	for _, n := range ends(api.MaxHeap) {
		check(1, n, 1)
		check(1, n, 16384)
	}
	for _, n := range ends(16383) {
		check(1, 1, n)
		check(-1, 1, n)
	}
	check(0, 0, 0)
	check(api.MaxSectors, api.MaxHeap, 16383)
	check(-1, -1, -1)
}

// blanks calls f with classes, kinds and sizes that may be, and such that may not.
func blanks(f func(class, kind, size int)) {
	classes := append(strangers(), 1, 2, 3, 4, 5, 6, 2000, 2001, 2*api.MaxSmall+1)
	kinds := []int{-1, 0, 1, 2, 3, 4, 1<<8 + 1, 1<<16 + 2, 1<<32 + 1, math.MinInt, math.MaxInt, math.MinInt + 1}
	sizes := []int{0, 1, 2, 7, 999, 1000, 1001, 1002, -1, -1000, 1 << 16, 1<<32 + 1, -1 << 32, 1 << 40, math.MaxInt, math.MinInt, math.MaxInt / 8, math.MaxInt/8 + 1}
	for _, class := range classes {
		for _, kind := range kinds {
			for _, size := range sizes {
				f(class, kind, size)
			}
		}
	}
}

func TestCreate(t *testing.T) {
	m, _ := loom.New(api.MaxSectors, 100, 100)
	p := flat.New()
	blanks(func(class, kind, size int) {
		o, e := m.New(class, kind, size)
		want, err := p.New(class, kind, size)
		if o != want || e != err || m.Made() != p.Made() {
			t.Fatal(class, kind, size, o, e, "want", want, err)
		}
		if got, e := m.Obj(o); o != 0 {
			if x, err := p.Obj(o); e != err || !same(got, x) {
				t.Fatal(class, kind, size, got, e)
			}
		}
	})
	if m.Made() == 0 || !m.Sound() {
		t.Error("none")
	}
	if x, y, z := m.Hand(); x != 0 || y != 0 || z != 0 {
		t.Error("a new object is at hand", x, y, z)
	}
}

// TestSizes: of each size, an object takes as many sectors as it needs, and is at hand if there is room for it.
func TestSizes(t *testing.T) {
	for size := range api.MaxWords + 1 {
		for _, kind := range []int{api.Words, api.Bytes} {
			length, n := size, 4*size
			if kind == api.Bytes {
				length, n = (size+1)/2, size
			}
			sectors := (12 + n + 63) / 64
			a := made(t, sectors, length, 1)
			o := a.create(2, kind, size)
			if a.create(2, api.Bytes, 0) != 0 {
				t.Fatal(size, kind, "a sector is free")
			}
			if size > 0 && (a.set(o, kind, size-1, 5) != api.OK || a.get(o, kind, size/2) != api.OK) {
				t.Fatal(size, kind, "no room")
			}
			a.evict(o)
			a.is(o)
			if length == 0 {
				continue
			}
			a = made(t, sectors, length-1, 1)
			if o := a.create(2, kind, size); a.get(o, kind, 0) != api.ErrFull || a.set(o, kind, 0, 5) != api.ErrFull {
				t.Fatal(size, kind, "room")
			}
			a.hand(0, 0, 0)
			a.is(o)
		}
	}
}

// TestFullDisk: New returns ErrFull if there are not enough sectors, and then it takes no number.
func TestFullDisk(t *testing.T) {
	for sectors := range 8 {
		for _, size := range []int{0, 1, 52, 53, 116, 117, 1000} {
			a := made(t, sectors, 9, 9)
			for range 9 {
				o := a.create(2, api.Bytes, size)
				a.get(o, api.Bytes, 0)
				a.create(2, api.Words, size/8)
				a.create(2, api.Words, 1001)
				a.create(3, api.Words, 1)
			}
			n, e := a.m.New(2, api.Words, 1000)
			if n != 0 || e != api.ErrFull {
				t.Error(n, e)
			}
			n, e = a.m.New(2, 3, 1000)
			if n != 0 || e != api.ErrArg {
				t.Error(n, e)
			}
			a.same()
			l := flat.All(a.m)
			a.collect(l[:len(l)/2]...)
			a.create(2, api.Bytes, size)
			a.create(2, api.Bytes, 0)
			a.same()
			a.collect()
			a.create(2, api.Bytes, size)
			a.same()
		}
	}
}

// TestFullNumbers: as many objects as there may be numbers, and not one more. On the way, a reference is the same number as Lambda.
func TestFullNumbers(t *testing.T) {
	m, _ := loom.New(api.MaxSectors, 4, 3)
	for m.Made() < api.MaxIds {
		o, e := m.New(2, api.Words, 1)
		if e == api.ErrFull {
			if n, e := m.Collect(); n != api.MaxSectors || e != api.OK {
				t.Fatal(n, e)
			}
			continue
		}
		if o != 2*m.Made() || e != api.OK {
			t.Fatal(o, e)
		}
		if o == api.Lambda || o == api.Lambda+2 || o == 2*api.MaxIds {
			for _, v := range []int{o, o - 2, o + 2, api.Lambda, o} {
				if e := m.Set(o, 0, v); e != api.OK {
					t.Fatal(o, v, e)
				}
				for range 2 {
					if w, e := m.Fetch(o, 0); w != v || e != api.OK || !m.Sound() {
						t.Fatal(o, v, w, e)
					}
					if e := m.Evict(o); e != api.OK {
						t.Fatal(e)
					}
				}
			}
		}
	}
	if o, e := m.New(2, api.Words, 1); o != 0 || e != api.ErrFull {
		t.Error(o, e)
	}
	if n, e := m.Collect(2 * api.MaxIds); n == 0 || e != api.OK {
		t.Error(n, e)
	}
	if o, e := m.New(2, api.Words, 1); o != 0 || e != api.ErrFull || m.Made() != api.MaxIds {
		t.Error(o, e, m.Made())
	}
	if o, ok := m.Next(0); o != 2*api.MaxIds || !ok {
		t.Error(o, ok)
	}
	if v, e := m.Fetch(2*api.MaxIds, 0); v != 2*api.MaxIds || e != api.OK || !m.Sound() {
		t.Error(v, e)
	}
	if o, ok := m.Next(2 * api.MaxIds); o != 0 || ok {
		t.Error(o, ok)
	}
}

// TestOrder: of the errors that apply, the first one is returned, and ErrFull is the last one.
func TestOrder(t *testing.T) {
	var none *loom.Memory
	for _, room := range [][2]int{{0, 0}, {0, 9}, {9, 0}} {
		a := small(t, room[0], room[1])
		for i, x := range []struct{ got, want api.Errno }{
			{none.Set(3, -1, 0), api.ErrNil},
			{none.SetByte(3, -1, 256), api.ErrNil},
			{a.m.Set(6, -1, 0), api.ErrNone},
			{a.m.Set(3, 0, 0), api.ErrNone},
			{a.m.Set(12, 0, 1), api.ErrNone},
			{a.m.Set(4, -1, 0), api.ErrKind},
			{a.m.Set(4, 0, 0), api.ErrKind},
			{a.m.Set(4, 0, 1), api.ErrKind},
			{a.m.Set(10, 0, 1), api.ErrKind},
			{a.m.Set(2, 3, 0), api.ErrIndex},
			{a.m.Set(2, -1, 1), api.ErrIndex},
			{a.m.Set(8, 0, 1), api.ErrIndex},
			{a.m.Set(2, 2, 0), api.ErrArg},
			{a.m.Set(2, 2, 12), api.ErrFull},
			{a.m.SetByte(6, -1, 256), api.ErrNone},
			{a.m.SetByte(2, -1, 256), api.ErrKind},
			{a.m.SetByte(2, 0, 1), api.ErrKind},
			{a.m.SetByte(8, 0, 1), api.ErrKind},
			{a.m.SetByte(4, 2, 256), api.ErrIndex},
			{a.m.SetByte(10, 0, 1), api.ErrIndex},
			{a.m.SetByte(4, 1, 256), api.ErrArg},
			{a.m.SetByte(4, 1, -1), api.ErrArg},
			{a.m.SetByte(4, 1, 255), api.ErrFull},
			{none.Become(2, 2), api.ErrNil},
			{a.m.Become(2, 6), api.ErrNone},
			{a.m.Become(6, 2), api.ErrNone},
			{a.m.Become(6, 6), api.ErrNone},
			{a.m.Become(2, 12), api.ErrNone},
			{a.m.Become(2, 1), api.ErrNone},
			{none.Evict(6), api.ErrNil},
			{none.Evict(), api.ErrNil},
			{a.m.Evict(), api.OK},
			{a.m.Evict(2, 6), api.ErrNone},
		} {
			if x.got != x.want {
				t.Error(room, i, x)
			}
		}
		for i, x := range []struct{ o, i, v, e int }{
			{6, 0, 0, 4}, {4, 9, 0, 20}, {2, 9, 0, 21}, {2, -1, 0, 21}, {2, 0, 0, 3}, {8, 0, 0, 21},
		} {
			if v, e := a.m.Fetch(x.o, x.i); v != x.v || int(e) != x.e {
				t.Error(room, i, v, e)
			}
		}
		for i, x := range []struct{ o, i, v, e int }{
			{6, 0, 0, 4}, {2, 9, 0, 20}, {4, 2, 0, 21}, {4, -1, 0, 21}, {4, 1, 0, 3}, {10, 0, 0, 21},
		} {
			if v, e := a.m.Byte(x.o, x.i); v != x.v || int(e) != x.e {
				t.Error(room, i, v, e)
			}
		}
		a.same()
	}
}

// TestErrorsAtHand: a call that returns an error makes nothing at hand.
func TestErrorsAtHand(t *testing.T) {
	a := small(t, 9, 9)
	a.evict(2, 4, 8, 10)
	for _, o := range []int{2, 4, 8, 10} {
		a.get(o, api.Words, -1)
		a.get(o, api.Words, 3)
		a.get(o, api.Bytes, 3)
		a.set(o, api.Words, 0, 0)
		a.set(o, api.Bytes, 0, 256)
		a.hand(0, 0, 0)
	}
	a.same()
}

func TestFetchAndSet(t *testing.T) {
	for _, room := range rooms() {
		for _, kind := range []int{api.Words, api.Bytes} {
			a := small(t, room[0], room[1])
			for o := -3; o < 16; o++ {
				for i := -2; i < 5; i++ {
					a.get(o, kind, i)
					for _, v := range []int{0, 1, 2, 3, -1, -2, 4, 255, 256, 257, -256, 2*api.MaxSmall + 1, 2*api.MaxSmall + 3, 2*api.MinSmall + 1, 2*api.MinSmall - 1, 2 * maxNumber, 2*maxNumber + 2, 1<<32 + 1, 1 << 32, math.MaxInt, math.MinInt} {
						a.set(o, kind, i, v)
						a.get(o, kind, i)
					}
				}
			}
			a.same()
		}
	}
}

// TestOneElement: with each Set and SetByte one element changes, and nothing else.
func TestOneElement(t *testing.T) {
	for _, room := range rooms() {
		a := made(t, 9, room[0], room[1])
		for range 3 {
			a.create(2, api.Words, 3)
			a.create(4, api.Bytes, 3)
		}
		for o := 2; o <= 12; o += 2 {
			for i := range 3 {
				kind := api.Words
				if o%4 == 0 {
					kind = api.Bytes
				}
				a.set(o, kind, i, 10*o+i+1-i%2)
				a.same()
			}
		}
	}
}

func TestStrangers(t *testing.T) {
	for _, room := range [][2]int{{0, 0}, {3, 1}, {5, 2}, {100, 100}} {
		a := small(t, room[0], room[1])
		for _, x := range strangers() {
			a.is(x)
			a.next(x)
			a.evict(x)
			a.evict(2, x, 4)
			for _, kind := range []int{api.Words, api.Bytes} {
				for _, o := range []int{2, 4, 6, 8, 10, x} {
					for _, i := range []int{0, x, x + 1} {
						a.get(o, kind, i)
						a.set(o, kind, i, 1)
					}
				}
				a.set(2, kind, 0, x)
				a.set(4, kind, 0, x)
			}
			a.become(x, 2)
			a.become(2, x)
			a.become(x, x)
			a.same()
		}
		for _, x := range strangers() {
			a.collect(2, x, 8, 10, x)
			a.same()
			a.sweep(x)
		}
	}
}

// TestWords: each word that may be is read back, at hand, after the object was evicted, and beside words of other kinds, whether or not there are slots for what it names.
func TestWords(t *testing.T) {
	var l []int
	for _, n := range []int{0, 1, -1, 2, 8191, 8192, -8192, 16382, 16383, 16384, 16385, -16383, -16384, -16385, -16386, 32766, 32767, 32768, -32768, 65535, 65536, 1 << 20, -1 << 20, api.MaxSmall, api.MaxSmall - 1, api.MinSmall, api.MinSmall + 1} {
		l = append(l, number(n))
	}
	l = append(l, 2, 4, 6, 8, 10, 2000, 32764, 32766, 32768, api.Lambda-2, api.Lambda, api.Lambda+2, 65536, 1<<31-2, 2*maxNumber-2, 1<<30)
	for _, slots := range []int{1, 2, 3, 9} {
		a := made(t, 9, 8, slots)
		x := a.create(2, api.Words, 3)
		y := a.create(2, api.Words, 2)
		z := a.create(2, api.Bytes, 2)
		for i, v := range l {
			w := l[(i*7+3)%len(l)]
			a.set(x, api.Words, i%3, v)
			a.get(x, api.Words, i%3)
			a.set(x, api.Words, (i+1)%3, w)
			a.set(y, api.Words, i%2, v)
			a.get(z, api.Bytes, 0)
			for j := range 3 {
				a.get(x, api.Words, j)
			}
			a.is(x)
			a.set(x, api.Words, (i+2)%3, v)
			a.evict(x)
			a.is(x)
			for j := range 3 {
				a.get(x, api.Words, j)
			}
			a.sweep(1)
			a.same()
		}
	}
}

// TestBytes: each byte that may be is read back, at each place of objects with few bytes, and the one beside it in the same word remains.
func TestBytes(t *testing.T) {
	for size := 1; size < 6; size++ {
		a := made(t, 9, 3, 1)
		o, q := a.create(2, api.Bytes, size), a.create(2, api.Bytes, 1)
		for v := range 256 {
			i := v % size
			if a.set(o, api.Bytes, i, v) != api.OK || a.set(o, api.Bytes, (i+1)%size, 255-v) != api.OK {
				t.Fatal(size, v)
			}
			for j := range size {
				a.get(o, api.Bytes, j)
			}
			if v%3 == 0 {
				a.get(q, api.Bytes, 0)
			}
			if v%16 == 0 {
				a.is(o)
			}
		}
		a.same()
	}
}

// TestHand: what is at hand, while there is room for all.
func TestHand(t *testing.T) {
	a := made(t, 20, 100, 100)
	x := a.create(2, api.Words, 2)
	y := a.create(2, api.Bytes, 3)
	z := a.create(2, api.Words, 1)
	a.hand(0, 0, 0)
	a.is(x)
	a.hand(0, 0, 0) // Obj makes nothing at hand
	a.get(y, api.Bytes, 0)
	a.hand(1, 1, 0)
	a.get(y, api.Bytes, 2)
	a.hand(1, 1, 0)
	a.set(y, api.Bytes, 1, 9)
	a.hand(1, 1, 1)
	a.set(x, api.Words, 0, y)
	a.hand(2, 2, 2)
	a.is(y) // writes it to the disk
	a.hand(2, 2, 1)
	a.is(y)
	a.hand(2, 2, 1)
	a.is(z)
	a.hand(2, 2, 1)
	a.set(x, api.Words, 1, z)
	a.hand(2, 3, 1) // z is a leaf
	a.set(x, api.Words, 1, number(1<<20))
	a.hand(2, 2, 1)
	a.set(x, api.Words, 1, z)
	a.evict(y)
	a.hand(1, 3, 1) // now y is one
	a.evict(y)
	a.hand(1, 3, 1)
	a.get(z, api.Words, 0) // z names x
	a.hand(2, 3, 1)
	a.evict(x)
	a.hand(1, 2, 0) // x is a leaf
	a.set(z, api.Words, 0, number(3))
	a.hand(1, 1, 1)
	a.set(z, api.Words, 0, z) // names itself
	a.hand(1, 1, 1)
	a.evict(z)
	a.hand(0, 0, 0)
	a.set(y, api.Bytes, 0, 9) // as it was
	a.set(y, api.Bytes, 0, 9)
	a.hand(1, 1, 1)
	if a.sweep(1) != 1 || a.sweep(1) != 0 {
		t.Error("Sweep")
	}
	a.hand(0, 0, 0)
	a.same()
}

// TestChanged: each object that was changed counts until it is evicted, or written back for Obj.
func TestChanged(t *testing.T) {
	a := made(t, 20, 100, 100)
	for range 5 {
		a.create(2000, api.Bytes, 4)
	}
	for i := range 5 {
		a.set(2*(i+1), api.Bytes, i%4, 7)
		a.hand(i+1, i+1, i+1)
	}
	a.is(4)
	a.is(4)
	a.hand(5, 5, 4)
	a.get(4, api.Bytes, 1)
	a.hand(5, 5, 4)
	a.set(4, api.Bytes, 1, 1)
	a.hand(5, 5, 5)
	a.evict(2, 4)
	a.hand(3, 3, 3)
	a.get(2, api.Bytes, 0)
	a.hand(4, 4, 3)
	a.evict(2, 4, 6, 8, 10, 2)
	a.hand(0, 0, 0)
	a.same()
}

// TestLeaf: a leaf has its slot as long as words at hand name it, however often they do.
func TestLeaf(t *testing.T) {
	a := made(t, 20, 100, 100)
	x := a.create(2, api.Words, 3)
	y := a.create(2, api.Bytes, 1)
	z := a.create(2, api.Words, 2)
	for i := range 3 {
		a.set(x, api.Words, i, y)
		a.hand(1, 2, 1)
	}
	a.set(z, api.Words, 0, y)
	a.set(z, api.Words, 1, y)
	a.hand(2, 3, 2)
	for i := range 3 {
		a.set(x, api.Words, i, 1)
		a.hand(2, 3, 2)
	}
	a.set(z, api.Words, 1, z)
	a.hand(2, 3, 2)
	a.set(z, api.Words, 0, 1)
	a.hand(2, 2, 2)
	a.evict(z)
	a.hand(1, 1, 1)
	a.set(x, api.Words, 2, z)
	a.set(x, api.Words, 1, z)
	a.set(z, api.Words, 0, x)
	a.hand(2, 2, 2)
	a.evict(x)
	a.hand(1, 2, 1)
	a.get(x, api.Words, 0)
	a.hand(2, 2, 1)
	a.evict(z)
	a.hand(1, 2, 0)
	a.evict(x)
	a.hand(0, 0, 0)
	a.same()
}

// TestTwo: of objects that fill the heap, one is at hand at a time, and each keeps what was set.
func TestTwo(t *testing.T) {
	for _, slots := range []int{1, 2, 3, 9} {
		a := made(t, 20, 2, slots)
		x, y := a.create(2, api.Words, 2), a.create(2, api.Words, 2)
		z := a.create(2, api.Bytes, 3)
		for i := range 2 {
			a.set(x, api.Words, i, number(10+i))
			a.set(y, api.Words, i, number(20+i))
			n, _, changed := a.m.Hand()
			if n != 1 || changed != 1 {
				t.Error(n, changed)
			}
			a.set(z, api.Bytes, 2*i, 30)
			a.hand(1, 1, 1)
		}
		for i := range 2 {
			for _, o := range []int{x, y} {
				a.get(o, api.Words, i)
				if n, _, changed := a.m.Hand(); n != 1 || changed != 0 {
					t.Error(n, changed)
				}
			}
		}
		a.get(y, api.Words, 0)
		a.hand(1, 1, 0)
		a.same()
	}
}

// TestVictims: as few objects are evicted as make room, those that were not touched for a while first.
func TestVictims(t *testing.T) {
	a := made(t, 20, 6, 100)
	var l []int
	for range 3 {
		l = append(l, a.create(2000, api.Bytes, 4))
	}
	big := a.create(2000, api.Bytes, 6)
	for _, o := range l {
		a.get(o, api.Bytes, 0)
	}
	a.hand(3, 3, 0)
	a.sweep(1) // the first one, as all were touched
	a.get(l[1], api.Bytes, 0)
	a.set(l[2], api.Bytes, 0, 1)
	a.hand(2, 2, 1)
	a.get(l[0], api.Bytes, 0)
	a.hand(3, 3, 1)
	a.get(big, api.Bytes, 0) // needs 3 words, so two have to go
	a.hand(2, 2, 0)

	a = made(t, 20, 100, 3)
	for range 4 {
		a.create(2000, api.Bytes, 4)
	}
	a.set(2, api.Bytes, 0, 1)
	a.get(4, api.Bytes, 0)
	a.get(6, api.Bytes, 0)
	a.hand(3, 3, 1)
	a.get(8, api.Bytes, 0) // needs a slot
	a.hand(3, 3, 0)        // 2 was evicted, and the touches of 4 and 6 have ended
	a.set(4, api.Bytes, 0, 1)
	a.get(2, api.Bytes, 0) // 6 was evicted, as it was not touched again
	a.hand(3, 3, 1)
	a.get(4, api.Bytes, 0)
	a.get(8, api.Bytes, 0)
	a.hand(3, 3, 1)
	a.same()

	// One that goes makes room enough, again and again.
	a = made(t, 20, 6, 100)
	for i := range 20 {
		o := a.create(2000, api.Bytes, 4)
		a.set(o, api.Bytes, 3, i)
		a.hand(min(i+1, 3), min(i+1, 3), min(i+1, 3))
	}
	a.same()
}

// TestPieces: nothing is evicted if there is enough room, in however many pieces.
func TestPieces(t *testing.T) {
	a := made(t, 20, 8, 100)
	for i := range 8 {
		a.create(2000, api.Bytes, 2)
		a.set(2*(i+1), api.Bytes, 1, i)
	}
	big := a.create(2000, api.Bytes, 7)
	a.hand(8, 8, 8)
	a.evict(2, 6, 10, 14)
	a.hand(4, 4, 4)
	a.set(big, api.Bytes, 6, 5)
	a.hand(5, 5, 5)
	for i := range 8 {
		a.is(2 * (i + 1))
	}
	a.hand(5, 5, 1)
	for _, o := range []int{4, 8, 12, 16} {
		a.get(o, api.Bytes, 1)
	}
	a.get(big, api.Bytes, 6)
	a.hand(5, 5, 1)
	a.same()
}

// TestSlots: what has no slot, because none is free, is read from the disk, and no object has to go for it.
func TestSlots(t *testing.T) {
	a := made(t, 20, 100, 3)
	x := a.create(2, api.Words, 4)
	for i := range 4 {
		a.create(2000, api.Bytes, 1)
		a.set(x, api.Words, i, 2*(i+2))
	}
	a.hand(1, 3, 1)
	for i := range 4 {
		a.get(x, api.Words, i)
		a.hand(1, 3, 1)
	}
	a.get(4, api.Bytes, 0)
	a.get(6, api.Bytes, 0)
	a.hand(3, 3, 1)
	for i := range 4 {
		a.get(x, api.Words, i)
		a.hand(3, 3, 1)
	}
	a.get(8, api.Bytes, 0) // takes the slot of x; the others keep theirs, as they are at hand
	a.hand(3, 3, 0)
	a.same()
	a.evict(2, 4, 6, 8, 10)
	a.set(x, api.Words, 0, number(1))
	a.set(x, api.Words, 1, number(1))
	a.hand(1, 1, 1)
	a.get(x, api.Words, 2) // now there is a slot for it
	a.hand(1, 2, 1)
	a.get(x, api.Words, 3)
	a.get(x, api.Words, 2)
	a.hand(1, 3, 1)
	a.set(x, api.Words, 2, number(1))
	a.hand(1, 2, 1)
	a.same()
}

// TestLater: a word may name an object that does not exist; later, when one with that number is made, it names that one.
func TestLater(t *testing.T) {
	for _, slots := range []int{1, 2, 9} {
		a := made(t, 20, 9, slots)
		x := a.create(2, api.Words, 3)
		for i := range 3 {
			a.set(x, api.Words, i, 2*(i+2))
			a.get(x, api.Words, i)
		}
		a.hand(1, 1, 1) // none of these objects exists, so none of them has a slot
		for i := range 3 {
			y := a.create(2, api.Bytes, 1)
			for j := range 3 {
				a.get(x, api.Words, j)
			}
			a.set(y, api.Bytes, 0, i)
			for j := range 3 {
				a.get(x, api.Words, j)
			}
			a.is(x)
		}
		if a.collect(x) != 0 {
			t.Error("Collect")
		}
		a.same()
		// What is gone is named no more by what remains, and its number does not come again.
		for i := range 3 {
			a.set(x, api.Words, i, 1)
		}
		if a.collect(x) != 3 {
			t.Error("Collect")
		}
		for i := range 3 {
			a.set(x, api.Words, i, 2*(i+2))
			a.create(2, api.Bytes, 1)
		}
		a.hand(1, 1, 1)
		a.same()
	}
}

func TestBecome(t *testing.T) {
	for _, room := range [][2]int{{0, 0}, {3, 1}, {4, 2}, {9, 9}} {
		for x := -1; x < 14; x++ {
			for y := -1; y < 14; y++ {
				a := small(t, room[0], room[1])
				a.become(x, y)
				a.same()
				a.become(x, y)
				a.same()
				a.become(y, x)
				a.set(x, api.Words, 0, 9)
				a.set(y, api.Bytes, 1, 9)
				a.same()
				a.collect(x)
				a.same()
			}
		}
	}
}

// TestBecomeNames: an object that is exchanged keeps what it names, so one that names itself names the other one afterwards, whether or not they are at hand, or changed.
func TestBecomeNames(t *testing.T) {
	for _, room := range rooms() {
		for _, at := range [][]int{nil, {2}, {4}, {6}, {2, 4}, {2, 6}, {4, 6}, {2, 4, 6}} {
			for _, turned := range []bool{false, true} {
				a := made(t, 20, room[0], room[1])
				x, y, z := a.create(2, api.Words, 1), a.create(6, api.Bytes, 1), a.create(2, api.Words, 2)
				a.set(x, api.Words, 0, x)
				a.set(z, api.Words, 0, x)
				a.set(z, api.Words, 1, y)
				a.set(y, api.Bytes, 0, 5)
				a.evict(at...)
				if turned {
					x, y = y, x
				}
				a.become(x, y)
				a.is(x)
				a.is(y)
				a.is(z)
				for range 2 {
					a.get(z, api.Words, 0)
					a.get(z, api.Words, 1)
					a.get(x, api.Words, 0)
					a.get(y, api.Words, 0)
					a.get(x, api.Bytes, 0)
					a.get(y, api.Bytes, 0)
				}
				a.same()
			}
		}
	}
}

// TestBecomeFull: two objects that need as many sectors as one another always change places; if one of them grows, there must be room for it, and without it nothing changes.
func TestBecomeFull(t *testing.T) {
	full := 0
	for sectors := 4; sectors < 12; sectors++ {
		for _, size := range []int{0, 13, 14, 29, 30, 45, 46} {
			for _, first := range []bool{true, false} {
				a := made(t, sectors, 100, 9)
				if first {
					a.create(2, api.Words, 3)
				}
				x := a.create(2, api.Words, size)
				y := a.create(6, api.Words, 3)
				z := a.create(2, api.Bytes, 40)
				if x == 0 || y == 0 || z == 0 {
					continue
				}
				a.set(x, api.Words, size-1, z)
				a.set(y, api.Words, 1, x)
				a.set(y, api.Words, 2, number(1<<20))
				a.set(z, api.Bytes, 3, 3)
				a.evict(z)
				for i, l := range [][2]int{{x, y}, {y, x}, {x, z}, {z, x}, {x, x}, {y, z}} {
					n, bound, changed := a.m.Hand()
					e := a.become(l[0], l[1])
					if e == api.OK && i == 5 {
						continue
					}
					if e == api.ErrFull {
						full++
						a.hand(n, bound, changed)
					}
					a.is(x)
					a.is(y)
					a.is(z)
					a.set(z, api.Bytes, 1, 5)
					a.set(y, api.Words, 0, y)
					if i >= 4 && e != api.OK {
						t.Error(sectors, size, l, e)
					}
				}
				a.create(2, api.Bytes, 200)
				a.same()
			}
		}
	}
	if full == 0 {
		t.Error("there was room in each case")
	}
}

func TestCollect(t *testing.T) {
	for _, room := range rooms() {
		a := small(t, room[0], room[1])
		if n := a.collect(2, 4, 8, 10); n != 0 {
			t.Error(n)
		}
		if n := a.collect(10, 10, 3, -5, 0, 6, 12, 10); n != 1 { // 10 has the class 4, which has the class 2
			t.Error(n)
		}
		a.same()
		if n := a.collect(); n != 3 {
			t.Error(n)
		}
		a.hand(0, 0, 0)
		a.same()
		if n := a.collect(2, 4); n != 0 {
			t.Error(n)
		}
		if o := a.create(2, api.Words, 1); o != 12 {
			t.Error(o)
		}
		a.same()
		if n := a.collect(13); n != 1 {
			t.Error(n)
		}
		if n := a.m.Made(); n != 6 {
			t.Error(n)
		}
		if n := made(t, 9, room[0], room[1]).collect(2, 4, 6); n != 0 {
			t.Error(n)
		}
	}
}

// TestCollectHand: what is removed leaves the heap, and gives its slot back, even if it names itself, or is named in a circle; what remains is at hand as before.
func TestCollectHand(t *testing.T) {
	a := made(t, 20, 100, 100)
	x, y := a.create(2, api.Words, 1), a.create(2, api.Words, 1)
	z, w := a.create(2, api.Words, 1), a.create(2, api.Bytes, 1)
	a.set(y, api.Words, 0, z)
	a.set(z, api.Words, 0, y)
	a.set(x, api.Words, 0, w)
	a.hand(3, 4, 3)
	a.set(w, api.Bytes, 0, 1)
	if a.collect(x) != 2 {
		t.Error("Collect")
	}
	if n, bound, _ := a.m.Hand(); n != 2 || bound != 2 {
		t.Error(n, bound)
	}
	// Only what is at hand tells that x names u by now.
	u := a.create(2, api.Bytes, 1)
	a.set(x, api.Words, 0, u)
	if a.collect(x) != 1 {
		t.Error("Collect")
	}
	if n, bound, _ := a.m.Hand(); n != 1 || bound != 2 {
		t.Error(n, bound)
	}
	a.same()
	a.set(x, api.Words, 0, 1)
	if a.collect(x, z) != 1 {
		t.Error("Collect")
	}
	if n, bound, _ := a.m.Hand(); n != 1 || bound != 1 {
		t.Error(n, bound)
	}
	a.same()
}

// subsets are all lists of some of l, in their order.
func subsets(l []int) [][]int {
	if len(l) == 0 {
		return [][]int{nil}
	}
	var all [][]int
	for _, s := range subsets(l[1:]) {
		all = append(all, s, append([]int{l[0]}, s...))
	}
	return all
}

// TestGraphs: of three objects, the first has two words, the second one, and the third is of bytes; each word and each class names one of the objects, or none. All are changed, and which are at hand changes.
func TestGraphs(t *testing.T) {
	names := []int{2, 4, 6, 8}
	words := append([]int{5}, names...)
	roots := subsets([]int{2, 4, 6, 8})
	rooms := rooms()
	k := 0
	for _, class := range names {
		for _, v := range words {
			for _, w := range words {
				for _, u := range names {
					for _, l := range roots {
						k++
						room := rooms[k%len(rooms)]
						a := made(t, 3, max(2, room[0]), max(1, room[1]))
						a.create(class, api.Words, 2)
						a.create(8, api.Words, 1)
						a.create(u, api.Bytes, 4)
						a.set(2, api.Words, 0, v)
						a.set(2, api.Words, 1, w)
						a.set(4, api.Words, 0, v)
						a.set(6, api.Bytes, 3, 2) // bytes like those of a reference name nothing
						a.collect(l...)
						if k%7 == 0 {
							a.same()
						} else if !slices.Equal(flat.All(a.m), flat.All(a.p)) {
							t.Fatal(class, v, w, u, l, flat.All(a.m))
						}
					}
				}
			}
		}
	}
}

// TestChain: what is reachable over many objects is visited without deep nesting, with one of them at hand at a time.
func TestChain(t *testing.T) {
	const n = api.MaxSectors
	m, _ := loom.New(n, 2, 1)
	for i := range n {
		if o, e := m.New(2, api.Words, 2); o != 2*(i+1) || e != api.OK {
			t.Fatal(i, o, e)
		}
		if e := m.Set(2*(i+1), 0, 2*(i+2)); e != api.OK {
			t.Fatal(e)
		}
	}
	if e := m.Set(2*n, 1, n); e != api.OK {
		t.Fatal(e)
	}
	if removed, e := m.Collect(2); removed != 0 || e != api.OK {
		t.Error(removed, e)
	}
	// Every object is of the class that is the first object, from which the chain begins.
	if removed, e := m.Collect(n + 2); removed != 0 || e != api.OK {
		t.Error(removed, e)
	}
	if e := m.Set(2, 0, 1); e != api.OK {
		t.Fatal(e)
	}
	if e := m.Set(2*n, 1, 1); e != api.OK {
		t.Fatal(e)
	}
	if removed, e := m.Collect(n + 2); removed != n/2-1 || e != api.OK {
		t.Error(removed, e)
	}
	if l := flat.All(m); len(l) != n/2+1 || !slices.IsSorted(l) || l[1] != n+2 || !m.Sound() {
		t.Error(len(l))
	}
}

func TestNext(t *testing.T) {
	const n = 5
	var l []int
	for i := range n {
		l = append(l, 2*(i+1))
	}
	for _, kept := range subsets(l) {
		a := made(t, n, 1, 1)
		for range n {
			a.create(2000, api.Bytes, 0)
		}
		a.collect(kept...)
		if got := flat.All(a.m); !slices.Equal(got, kept) {
			t.Error(got, "want", kept)
		}
		a.same()
		if o := a.create(2, api.Words, 1); len(kept) < n && o != 2*(n+1) {
			t.Error("a number of an object that was removed is used again:", o)
		}
		a.same()
	}
	a := small(t, 9, 9)
	for o, want := range map[int]int{0: 2, 1: 2, 3: 2, -2: 2, 9: 2, 2: 4, 4: 8, 6: 8, 8: 10, 10: 0, 12: 0, 2 * maxNumber: 0, 2*maxNumber + 2: 2} {
		if got, ok := a.m.Next(o); got != want || ok != (want != 0) {
			t.Error(o, got, ok, "want", want)
		}
	}
}

func TestEvict(t *testing.T) {
	for _, l := range [][]int{nil, {}, {2}, {4}, {2, 2}, {8, 10}, {10, 2, 4, 2, 8, 8}, {2, 4, 8, 10}} {
		a := small(t, 9, 9)
		a.get(2, api.Words, 0)
		a.set(4, api.Bytes, 1, 3)
		n, bound, changed := a.m.Hand()
		for _, bad := range append(strangers(), 6, 12, 1, 3) {
			for i := range len(l) + 1 {
				if a.evict(slices.Insert(slices.Clone(l), i, bad)...) != api.ErrNone {
					t.Error(l, bad)
				}
				a.hand(n, bound, changed)
			}
		}
		if a.evict(l...) != api.OK {
			t.Error(l)
		}
		for _, o := range l {
			if slices.Contains(l, o) && (o == 2 || o == 4) {
				n--
			}
			l = slices.DeleteFunc(slices.Clone(l), func(v int) bool { return v == o })
		}
		if got, _, _ := a.m.Hand(); got != n {
			t.Error(l, got, n)
		}
		a.same()
	}
}

func TestSweep(t *testing.T) {
	for _, n := range []int{0, 1, 2, 3, 4, 5, 6, 100, -1, -100, math.MaxInt, math.MinInt} {
		a := made(t, 20, 100, 100)
		for i := range 5 {
			a.create(2, api.Words, 3)
			a.set(2*(i+1), api.Words, i%3, 2*(i+2))
		}
		a.sweep(n)
		a.sweep(1)
		a.same()
		a.sweep(n)
		a.sweep(100)
		a.hand(0, 0, 0)
		a.sweep(n)
		a.same()
	}
}

func TestNil(t *testing.T) {
	var m *loom.Memory
	for _, x := range append(strangers(), 1, 2, 4) {
		if o, e := m.New(x, 1, 1); o != 0 || e != api.ErrNil {
			t.Error(o, e)
		}
		if o, e := m.Obj(x); !same(o, api.Obj{}) || e != api.ErrNil {
			t.Error(o, e)
		}
		if v, e := m.Fetch(x, 0); v != 0 || e != api.ErrNil {
			t.Error(v, e)
		}
		if v, e := m.Byte(x, 0); v != 0 || e != api.ErrNil {
			t.Error(v, e)
		}
		for i, e := range []api.Errno{m.Set(x, 0, 1), m.SetByte(x, 0, 1), m.Become(x, 2), m.Evict(x), m.Evict(2, x), m.Evict()} {
			if e != api.ErrNil {
				t.Error(i, e)
			}
		}
		if o, ok := m.Next(x); o != 0 || ok {
			t.Error(o, ok)
		}
		if n, e := m.Collect(x); n != 0 || e != api.ErrNil {
			t.Error(n, e)
		}
		if n := m.Sweep(x); n != 0 {
			t.Error(n)
		}
	}
	if n, e := m.Collect(); n != 0 || e != api.ErrNil || m.Made() != 0 || m.Sound() {
		t.Error(n, e, m.Made())
	}
	if x, y, z := m.Hand(); x != 0 || y != 0 || z != 0 {
		t.Error(x, y, z)
	}
	if l := flat.All(m); len(l) != 0 {
		t.Error(l)
	}
	if e := flat.Load(m, api.Obj{Class: 2, Kind: api.Bytes}); e != api.ErrNil {
		t.Error(e)
	}
}

// TestZero: a Memory that New did not make has no objects, and takes none; nothing panics.
func TestZero(t *testing.T) {
	var m loom.Memory
	for _, x := range append(strangers(), 1, 2, 4) {
		if o, e := m.New(x, 1, 1); o != 0 || e == api.OK {
			t.Error(o, e)
		}
		if o, e := m.Obj(x); !same(o, api.Obj{}) || e != api.ErrNone {
			t.Error(o, e)
		}
		if v, e := m.Fetch(x, 0); v != 0 || e != api.ErrNone {
			t.Error(v, e)
		}
		if v, e := m.Byte(x, 0); v != 0 || e != api.ErrNone {
			t.Error(v, e)
		}
		for i, e := range []api.Errno{m.Set(x, 0, 1), m.SetByte(x, 0, 1), m.Become(x, 2), m.Evict(x), m.Evict(2, x)} {
			if e != api.ErrNone {
				t.Error(i, e)
			}
		}
		if o, ok := m.Next(x); o != 0 || ok {
			t.Error(o, ok)
		}
		if n, e := m.Collect(x); n != 0 || e != api.OK {
			t.Error(n, e)
		}
		if n := m.Sweep(x); n != 0 {
			t.Error(n)
		}
	}
	m.Sound()
	if x, y, z := m.Hand(); x != 0 || y != 0 || z != 0 || m.Made() != 0 || m.Evict() != api.OK {
		t.Error(x, y, z)
	}
}

// TestObj: what Obj returns shares no memory with what is kept, or with what it returned before.
func TestObj(t *testing.T) {
	a := small(t, 9, 9)
	for range 2 {
		x, _ := a.m.Obj(2)
		y, _ := a.m.Obj(4)
		z, _ := a.m.Obj(2)
		w, _ := a.m.Obj(4)
		for i := range x.W {
			x.W[i] = 77
		}
		for i := range y.B {
			y.B[i] = 77
		}
		_ = append(x.W, 5, 5, 5)
		_ = append(y.B, 5, 5, 5)
		if !slices.Equal(z.W, []int{2, 4, -7}) || !bytes.Equal(w.B, []byte{200, 0}) {
			t.Error(z, w)
		}
		a.same()
	}
	x, _ := a.m.Obj(2)
	a.set(2, api.Words, 0, 9)
	y, _ := a.m.Obj(4)
	a.set(4, api.Bytes, 0, 9)
	a.evict(2, 4)
	if x.W[0] != 2 || y.B[0] != 200 {
		t.Error("an object that was returned has changed", x, y)
	}
}

// TestArguments: roots and references that are handed in are neither changed nor kept.
func TestArguments(t *testing.T) {
	a := small(t, 9, 9)
	l := []int{10, 2, 2, 8, 99, 99}
	a.evict(l[:4]...)
	if !slices.Equal(l, []int{10, 2, 2, 8, 99, 99}) {
		t.Error(l)
	}
	clear(l)
	a.same()
	roots := []int{10, 2, 2, 3, 8, 99, 99}
	a.collect(roots[:5]...)
	if !slices.Equal(roots, []int{10, 2, 2, 3, 8, 99, 99}) {
		t.Error(roots)
	}
	clear(roots)
	a.same()
}

// TestStore: the functions of package flat take a paged memory as they take a flat one.
func TestStore(t *testing.T) {
	l := []api.Obj{
		{Class: 4, Kind: api.Words, W: []int{7, 2, 2 * maxNumber, 2*api.MinSmall + 1}},
		{Class: 2 * maxNumber, Kind: api.Bytes, B: []byte{0, 255, 0, 1}},
		{Class: 2, Kind: api.Words},
		{Class: 2, Kind: api.Bytes},
		{Class: 8, Kind: api.Words, W: slices.Repeat([]int{-3}, 1000)},
		{Class: 8, Kind: api.Bytes, B: bytes.Repeat([]byte{254}, 1000)},
		{Class: 6, Kind: api.Words, W: []int{12, 14, api.Nil}},
	}
	for _, slots := range []int{1, 4, 100} {
		m, _ := loom.New(200, 1000, slots)
		var s flat.Store = m
		if e := flat.Load(s, l...); e != api.OK {
			t.Fatal(e)
		}
		if e := flat.Load(s, l...); e != api.ErrArg {
			t.Error(e)
		}
		for i, x := range l {
			o := 2 * (i + 1)
			got, e := s.Obj(o)
			class, err := flat.Class(s, o)
			size, fault := flat.Size(s, o)
			if e != api.OK || !same(got, x) || class != x.Class || err != api.OK || size != wide.Size(x) || fault != api.OK {
				t.Error(i, got, e, class, err, size, fault)
			}
		}
		if l := flat.All(s); !slices.Equal(l, []int{2, 4, 6, 8, 10, 12, 14}) || !m.Sound() {
			t.Error(l)
		}
	}
	m, _ := loom.New(200, 999, 9)
	if e := flat.Load(m, l...); e != api.ErrFull || m.Made() != 5 || !m.Sound() {
		t.Error(e, m.Made())
	}
	m, _ = loom.New(2, 1000, 9)
	if e := flat.Load(m, l...); e != api.ErrFull || m.Made() != 2 || !m.Sound() {
		t.Error(e, m.Made())
	}
}

func TestIndependence(t *testing.T) {
	a, b := small(t, 4, 2), small(t, 4, 2)
	a.set(2, api.Words, 0, 9)
	a.set(4, api.Bytes, 1, 9)
	b.same()
	x, y, z := b.m.Hand()
	a.become(2, 4)
	a.create(2, api.Words, 1)
	a.evict(2, 4)
	a.sweep(9)
	b.hand(x, y, z)
	b.same()
	a.collect()
	b.same()
	b.create(2, api.Bytes, 1)
	a.same()
	b.same()
}

// TestSequences: each sequence of a few calls, in memories with room for nothing, for one object, for some.
func TestSequences(t *testing.T) {
	calls := []func(a pair){
		func(a pair) { a.get(2, api.Words, 0) },
		func(a pair) { a.get(4, api.Bytes, 2) },
		func(a pair) { a.get(6, api.Words, 0) },
		func(a pair) { a.set(2, api.Words, 0, 4) },
		func(a pair) { a.set(2, api.Words, 1, 2) },
		func(a pair) { a.set(2, api.Words, 0, number(1<<20)) },
		func(a pair) { a.set(4, api.Bytes, 2, 9) },
		func(a pair) { a.set(6, api.Words, 0, 4) },
		func(a pair) { a.set(6, api.Words, 0, 8) },
		func(a pair) { a.become(2, 4) },
		func(a pair) { a.become(6, 2) },
		func(a pair) { a.collect(6) },
		func(a pair) { a.create(2, api.Words, 1) },
		func(a pair) { a.is(2) },
		func(a pair) { a.evict(2) },
		func(a pair) { a.evict(4, 6) },
		func(a pair) { a.sweep(1) },
	}
	for _, room := range [][2]int{{0, 1}, {1, 1}, {2, 1}, {2, 2}, {3, 2}, {2, 3}, {3, 3}, {9, 9}} {
		for i := range len(calls) * len(calls) * len(calls) {
			a := made(t, 4, room[0], room[1])
			a.create(2, api.Words, 2)
			a.create(2, api.Bytes, 3)
			a.create(4, api.Words, 1)
			a.set(6, api.Words, 0, 2)
			for k := i; k > 0; k /= len(calls) {
				calls[k%len(calls)](a)
			}
			if i%10 == 0 {
				a.same()
			} else {
				for o := 2; o <= 8; o += 2 {
					a.is(o)
				}
			}
		}
	}
}

// work makes some calls by chance, and holds what they return against the flat memory.
func (a pair) work(r *rand.Rand, steps, size int) {
	a.Helper()
	for step := range steps {
		made := a.p.Made()
		o, q := r.Intn(2*made+4), r.Intn(2*made+4)
		if r.Intn(3) > 0 {
			o, q = 2*r.Intn(made+1)+2, 2*r.Intn(made+1)+2
		}
		kind := 1 + r.Intn(2)
		switch r.Intn(16) {
		case 0, 1:
			a.create(2*r.Intn(made+2), r.Intn(4), r.Intn(size+2)-1)
		case 2, 3, 4, 5:
			a.set(o, kind, r.Intn(size+2)-1, q)
		case 6:
			a.set(o, api.Words, r.Intn(size), number(r.Intn(1<<16)-1<<15))
		case 7, 8, 9:
			a.get(o, kind, r.Intn(size+2)-1)
		case 10:
			a.become(o, q)
		case 11:
			a.next(o)
			a.is(o)
		case 12:
			a.sweep(r.Intn(4))
		case 13:
			a.evict(o)
		case 14:
			a.evict(2, o, q, o)
		case 15:
			if r.Intn(10) > 0 {
				continue
			}
			var roots []int
			for range made / 2 {
				roots = append(roots, r.Intn(2*made+4))
			}
			a.collect(roots...)
		}
		if step%100 == 0 {
			a.same()
		}
	}
	a.same()
}

func TestRandom(t *testing.T) {
	r := rand.New(rand.NewSource(11))
	for _, room := range rooms() {
		for _, sectors := range []int{3, 10, 200} {
			made(t, sectors, room[0], room[1]).work(r, 400, 5)
			made(t, sectors, room[0], room[1]).work(r, 200, 20)
		}
	}
	for range 30 {
		made(t, 1+r.Intn(60), r.Intn(60), r.Intn(20)).work(r, 300, 1+r.Intn(30))
	}
}

// TestEnough: with as many words as the largest object has, and one slot, there is always room.
func TestEnough(t *testing.T) {
	r := rand.New(rand.NewSource(6))
	for _, size := range []int{1, 2, 7, 40, 1000} {
		for _, slots := range []int{1, 2} {
			a := made(t, 10000, size, slots)
			for range 20 {
				a.create(2*(1+r.Intn(20)), api.Words, r.Intn(size)+1)
				a.create(2*(1+r.Intn(20)), api.Bytes, min(1000, r.Intn(2*size)+1))
			}
			largest := a.create(2, api.Words, size)
			for range 100 + 2000/size {
				o, q := 2*(1+r.Intn(40)), 2*(1+r.Intn(40))
				kind := 2 - (o/2)%2
				n, e := flat.Size(a.p, o)
				if x, _ := a.p.Obj(o); e != api.OK || x.Kind != kind {
					t.Fatal(o, x, e)
				}
				for i, e := range []api.Errno{a.set(o, kind, r.Intn(n), q), a.get(o, kind, r.Intn(n)), a.set(largest, api.Words, r.Intn(size), q+r.Intn(2)), a.become(o, o)} {
					if e != api.OK {
						t.Fatal(size, slots, i, o, e)
					}
				}
			}
			a.same()
		}
	}
}

// TestGreatest: a memory of the greatest size, with as many objects at hand as there are slots.
func TestGreatest(t *testing.T) {
	const slots = 16383
	m, e := loom.New(api.MaxSectors, api.MaxHeap, slots)
	if e != api.OK {
		t.Fatal(e)
	}
	for i := range slots + 3 {
		o, e := m.New(2, api.Words, 2)
		if o != 2*(i+1) || e != api.OK {
			t.Fatal(o, e)
		}
		for j, v := range []int{o, number(i)} {
			if e := m.Set(o, j, v); e != api.OK {
				t.Fatal(o, v, e)
			}
		}
	}
	if n, bound, changed := m.Hand(); n != slots || bound != slots || changed != slots || !m.Sound() {
		t.Error(n, bound, changed, m.Sound())
	}
	for i := range slots + 3 {
		o := 2 * (i + 1)
		for j, want := range []int{o, number(i)} {
			if v, e := m.Fetch(o, j); v != want || e != api.OK {
				t.Fatal(o, v, e)
			}
		}
	}
	if e := m.Set(2, 0, 2*slots); e != api.OK || !m.Sound() {
		t.Error(e)
	}
	if n := m.Sweep(slots + 5); n != slots || !m.Sound() {
		t.Error(n)
	}
	if n, bound, changed := m.Hand(); n != 0 || bound != 0 || changed != 0 {
		t.Error(n, bound, changed)
	}
	if v, e := m.Fetch(2, 0); v != 2*slots || e != api.OK {
		t.Error(v, e)
	}
}

// TestGreatObject: the heap is full of objects of one word, many of which leave it, and an object of the greatest size needs their places.
func TestGreatObject(t *testing.T) {
	a := made(t, api.MaxSectors, 1500, 16383)
	for i := range 1500 {
		o, e := a.m.New(2000, api.Bytes, 2)
		if q, err := a.p.New(2000, api.Bytes, 2); o != q || e != err {
			t.Fatal(o, e)
		}
		if e, err := a.m.SetByte(o, 1, i%256), a.p.SetByte(o, 1, i%256); e != api.OK || err != api.OK {
			t.Fatal(e, err)
		}
	}
	a.hand(1500, 1500, 1500)
	o, e := a.m.New(2, api.Words, 1000)
	if q, err := a.p.New(2, api.Words, 1000); o != q || e != err {
		t.Fatal(o, e)
	}
	for i := range 1000 {
		if e := a.m.Evict(3*i/2*2 + 2); e != api.OK {
			t.Fatal(i, e)
		}
	}
	a.hand(500, 500, 500)
	a.set(o, api.Words, 999, number(5))
	a.hand(501, 502, 501) // its words name the first object
	for i := range 1000 {
		if e, err := a.m.Set(o, i, 2*(i+1)), a.p.Set(o, i, 2*(i+1)); e != api.OK || err != api.OK {
			t.Fatal(i, e, err)
		}
	}
	a.hand(501, 1168, 501) // a third of what it names was at hand
	for o := range 3010 {
		x, e := a.m.Obj(o)
		if y, err := a.p.Obj(o); e != err || !same(x, y) {
			t.Fatal(o, x, e)
		}
	}
	a.hand(501, 1168, 0)
}

// TestRepeated: the same calls have the same results, down to what is at hand.
func TestRepeated(t *testing.T) {
	var first [][3]int
	for range 5 {
		r := rand.New(rand.NewSource(5))
		m, _ := loom.New(60, 30, 12)
		var l [][3]int
		for range 30 {
			m.New(2*(1+r.Intn(30)), 1+r.Intn(2), 1+r.Intn(9))
		}
		for range 2000 {
			o := 2 * (1 + r.Intn(30))
			m.Set(o, r.Intn(9), 2*(1+r.Intn(30)))
			m.Byte(o, r.Intn(9))
			if r.Intn(100) == 0 {
				m.Collect(2, 4, 6, o)
				m.New(2, api.Words, 5)
			}
			x, y, z := m.Hand()
			l = append(l, [3]int{x, y, z})
		}
		if first == nil {
			first = l
		}
		if !slices.Equal(l, first) {
			t.Fatal("what is at hand differs")
		}
	}
}

func TestExample(t *testing.T) {
	m, e := loom.New(9, 2, 2)
	if e != api.OK {
		t.Fatal(e)
	}
	a, _ := m.New(2, api.Words, 2)
	b, _ := m.New(2, api.Words, 2)
	five, _ := word.Small(5)
	for i, x := range [][3]int{{a, 0, five}, {b, 0, a}, {a, 1, b}, {b, 1, 1<<20 + 1}} {
		if e := m.Set(x[0], x[1], x[2]); e != api.OK {
			t.Error(i, e)
		}
		if n, _, _ := m.Hand(); n != 1 || !m.Sound() {
			t.Error(i, n)
		}
	}
	for i, x := range [][3]int{{a, 0, five}, {b, 0, a}, {a, 1, b}, {b, 1, 1<<20 + 1}} {
		if v, e := m.Fetch(x[0], x[1]); v != x[2] || e != api.OK {
			t.Error(i, v, e)
		}
		if n, _, _ := m.Hand(); n != 1 || !m.Sound() {
			t.Error(i, n)
		}
	}
}
