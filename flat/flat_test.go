package flat_test

import (
	"bytes"
	"fmt"
	"maps"
	"math"
	"math/rand"
	"reflect"
	"slices"
	"testing"

	"webster/api"
	"webster/flat"
)

const maxNumber = 1<<30 - 1 // the greatest number of an object that a reference names

// number returns the number of the object that o names.
func number(o int) (int, bool) {
	if o < 2 || o > 2*maxNumber || o%2 != 0 {
		return 0, false
	}
	return o / 2, true
}

// ref reports whether v may be a word.
func ref(v int) bool {
	_, named := number(v)
	small := v%2 != 0 && v >= 2*api.MinSmall+1 && v <= 2*api.MaxSmall+1
	return named || small
}

// object is an object of the model: its elements are words or bytes, according to its kind.
type object struct {
	class int
	kind  int
	l     []int
}

// model is a memory in the plainest form, against which the package is held: the object with the number 1 comes first, and nil stands for those that are gone.
type model struct {
	l []*object
}

func (p *model) find(o int) *object {
	id, ok := number(o)
	if !ok || id > len(p.l) {
		return nil
	}
	return p.l[id-1]
}

func (p *model) create(class, kind, size int) (int, api.Errno) {
	if _, ok := number(class); !ok || kind != api.Words && kind != api.Bytes || size < 0 || size > 1000 {
		return 0, api.ErrArg
	}
	x := &object{class, kind, make([]int, size)}
	if kind == api.Words {
		for i := range x.l {
			x.l[i] = 2
		}
	}
	p.l = append(p.l, x)
	return 2 * len(p.l), api.OK
}

func (p *model) get(o, kind, i int) (int, api.Errno) {
	x := p.find(o)
	if x == nil {
		return 0, api.ErrNone
	}
	if x.kind != kind {
		return 0, api.ErrKind
	}
	if i < 0 || i >= len(x.l) {
		return 0, api.ErrIndex
	}
	return x.l[i], api.OK
}

func (p *model) set(o, kind, i, v int) api.Errno {
	if _, e := p.get(o, kind, i); e != api.OK {
		return e
	}
	if kind == api.Words && !ref(v) || kind == api.Bytes && (v < 0 || v > 255) {
		return api.ErrArg
	}
	p.find(o).l[i] = v
	return api.OK
}

func (p *model) become(a, b int) api.Errno {
	x, y := p.find(a), p.find(b)
	if x == nil || y == nil {
		return api.ErrNone
	}
	*x, *y = *y, *x
	return api.OK
}

func (p *model) next(o int) (int, bool) {
	id, _ := number(o)
	for i, x := range p.l {
		if i+1 > id && x != nil {
			return 2 * (i + 1), true
		}
	}
	return 0, false
}

func (p *model) all() []int {
	var l []int
	for i, x := range p.l {
		if x != nil {
			l = append(l, 2*(i+1))
		}
	}
	return l
}

// collect marks what the marked objects name, again and again, till no more are marked.
func (p *model) collect(roots []int) int {
	marked := map[*object]bool{}
	mark := func(l ...int) {
		for _, o := range l {
			if x := p.find(o); x != nil {
				marked[x] = true
			}
		}
	}
	mark(roots...)
	for n := -1; n < len(marked); {
		n = len(marked)
		for x := range maps.Clone(marked) {
			mark(x.class)
			if x.kind == api.Words {
				mark(x.l...)
			}
		}
	}
	removed := 0
	for i, x := range p.l {
		if x != nil && !marked[x] {
			p.l[i] = nil
			removed++
		}
	}
	return removed
}

// obj returns the object in the form that the package has for it.
func (x *object) obj() api.Obj {
	o := api.Obj{Class: x.class, Kind: x.kind}
	if x.kind == api.Words {
		o.W = slices.Clone(x.l)
	} else {
		for _, v := range x.l {
			o.B = append(o.B, byte(v))
		}
	}
	return o
}

func same(a, b api.Obj) bool {
	return a.Class == b.Class && a.Kind == b.Kind && slices.Equal(a.W, b.W) && bytes.Equal(a.B, b.B)
}

func zero(o api.Obj) bool {
	return same(o, api.Obj{})
}

// pair is a memory beside the model that tells what it must answer.
type pair struct {
	*testing.T
	m *flat.Memory
	p *model
}

func made(t *testing.T) pair {
	t.Helper()
	m := flat.New()
	if m == nil {
		t.Fatal("New")
	}
	return pair{t, m, &model{}}
}

func (a pair) create(class, kind, size int) int {
	a.Helper()
	o, e := a.m.New(class, kind, size)
	if want, err := a.p.create(class, kind, size); o != want || e != err {
		a.Fatal("New", class, kind, size, o, e, "want", want, err)
	}
	return o
}

func (a pair) get(o, kind, i int) {
	a.Helper()
	f := a.m.Fetch
	if kind == api.Bytes {
		f = a.m.Byte
	}
	v, e := f(o, i)
	if want, err := a.p.get(o, kind, i); v != want || e != err {
		a.Fatal("get", o, kind, i, v, e, "want", want, err)
	}
}

func (a pair) set(o, kind, i, v int) api.Errno {
	a.Helper()
	f := a.m.Set
	if kind == api.Bytes {
		f = a.m.SetByte
	}
	e := f(o, i, v)
	if want := a.p.set(o, kind, i, v); e != want {
		a.Fatal("set", o, kind, i, v, e, "want", want)
	}
	return e
}

func (a pair) become(x, y int) api.Errno {
	a.Helper()
	e := a.m.Become(x, y)
	if want := a.p.become(x, y); e != want {
		a.Fatal("Become", x, y, e, "want", want)
	}
	return e
}

func (a pair) next(o int) {
	a.Helper()
	n, ok := a.m.Next(o)
	if want, has := a.p.next(o); n != want || ok != has {
		a.Fatal("Next", o, n, ok, "want", want, has)
	}
}

func (a pair) collect(roots ...int) int {
	a.Helper()
	n, e := a.m.Collect(roots...)
	if want := a.p.collect(roots); n != want || e != api.OK {
		a.Fatal("Collect", roots, n, e, "want", want)
	}
	return n
}

// is fails the test unless the object that o names, if any, is that of the model.
func (a pair) is(o int) {
	a.Helper()
	got, e := a.m.Obj(o)
	class, err := flat.Class(a.m, o)
	size, fault := flat.Size(a.m, o)
	x := a.p.find(o)
	switch {
	case x == nil && (e != api.ErrNone || err != api.ErrNone || fault != api.ErrNone || !zero(got) || class != 0 || size != 0):
		a.Fatal("object", o, got, e, class, err, size, fault, "want none")
	case x != nil && (e != api.OK || err != api.OK || fault != api.OK || !same(got, x.obj()) || class != x.class || size != len(x.l)):
		a.Fatal("object", o, got, e, class, err, size, fault, "want", *x)
	}
}

// same fails the test unless the memory is what the model is.
func (a pair) same() {
	a.Helper()
	if n := a.m.Made(); n != len(a.p.l) {
		a.Fatal("Made", n, "want", len(a.p.l))
	}
	if l := flat.All(a.m); !slices.Equal(l, a.p.all()) {
		a.Fatal("All", l, "want", a.p.all())
	}
	for o := -3; o < 2*len(a.p.l)+6; o++ {
		a.is(o)
		a.next(o)
		x := a.p.find(o)
		if x == nil {
			continue
		}
		for _, i := range []int{-1, 0, len(x.l) / 2, len(x.l) - 1, len(x.l)} {
			a.get(o, api.Words, i)
			a.get(o, api.Bytes, i)
		}
	}
}

// strangers are numbers that are neither references of a small memory nor indexes of a small object; some would be one in another kind of integer.
func strangers() []int {
	return []int{
		-1, -2, -3, 0, -1 << 16, 1<<16 + 2, 1 << 31, 1<<31 - 2, 1<<31 + 2, 1 << 32, 1<<32 + 2, 1<<32 + 1, -1 << 32, 2 - 1<<32, 1 << 62, 1<<62 + 2,
		2 * maxNumber, 2*maxNumber + 2, 4 * maxNumber, math.MaxInt, math.MaxInt - 1, math.MinInt, math.MinInt + 1, math.MinInt + 2,
	}
}

// small is a memory with an object of three words, one of two bytes, one without words, one without bytes, and a gap where one was removed.
func small(t *testing.T) pair {
	t.Helper()
	a := made(t)
	x := a.create(2, api.Words, 3)
	y := a.create(2, api.Bytes, 2)
	a.create(2, api.Words, 0)
	z := a.create(2, api.Words, 0)
	w := a.create(4, api.Bytes, 0)
	a.set(x, api.Words, 1, y)
	a.set(x, api.Words, 2, -7)
	a.set(y, api.Bytes, 0, 200)
	if a.collect(x, z, w) != 1 {
		t.Fatal("small")
	}
	a.same()
	return a
}

func TestRef(t *testing.T) {
	yes := []int{1, -1, 2, 3, -3, 4, 1<<20 + 1, 2*api.MaxSmall + 1, 2*api.MinSmall + 1, 2 * maxNumber, 2*maxNumber - 2}
	no := []int{0, -2, -4, 2*api.MaxSmall + 3, 2*api.MinSmall - 1, 2*maxNumber + 2, 1 << 31, -1 << 31, 1 << 32, 1<<32 + 1, 1<<32 + 2, 1<<62 + 1, math.MaxInt, math.MaxInt - 1, math.MinInt, math.MinInt + 1}
	for _, v := range yes {
		if !flat.Ref(v) {
			t.Error(v)
		}
	}
	for _, v := range no {
		if flat.Ref(v) {
			t.Error(v)
		}
	}
	for _, v := range append(strangers(), yes...) {
		if flat.Ref(v) != ref(v) {
			t.Error(v)
		}
	}
}

// blanks calls f with classes, kinds and sizes that may be, and such that may not.
func blanks(f func(class, kind, size int)) {
	classes := append(strangers(), 1, 2, 3, 4, 5, 6, 2000, 2001, 2*api.MaxSmall+1)
	kinds := []int{-1, 0, 1, 2, 3, 4, 1<<8 + 1, 1<<16 + 2, 1<<32 + 1, math.MinInt, math.MaxInt, math.MinInt + 1}
	sizes := []int{0, 1, 2, 7, 999, 1000, 1001, 1002, -1, -1000, 1 << 16, 1<<32 + 1, -1 << 32, 1 << 40, math.MaxInt, math.MinInt, math.MaxInt / 8, math.MaxInt/8 + 1}
	for _, class := range classes {
		for _, kind := range kinds {
			for _, size := range sizes {
				f(class, kind, size)
			}
		}
	}
}

func TestBlank(t *testing.T) {
	count := 0
	blanks(func(class, kind, size int) {
		var p model
		_, e := p.create(class, kind, size)
		o, ok := flat.Blank(class, kind, size)
		switch {
		case ok != (e == api.OK):
			t.Error(class, kind, size, ok, "want", e)
		case ok && !same(o, p.l[0].obj()):
			t.Error(class, kind, size, o)
		case !ok && !zero(o):
			t.Error(class, kind, size, o)
		}
		if ok {
			count++
		}
	})
	if count == 0 {
		t.Error("no object may be")
	}
	for i, x := range []struct {
		class, kind, size int
		want              api.Obj
	}{
		{2, api.Words, 2, api.Obj{Class: 2, Kind: api.Words, W: []int{api.Nil, api.Nil}}},
		{8, api.Bytes, 3, api.Obj{Class: 8, Kind: api.Bytes, B: []byte{0, 0, 0}}},
		{2, api.Words, 0, api.Obj{Class: 2, Kind: api.Words}},
		{2 * maxNumber, api.Bytes, 0, api.Obj{Class: 2 * maxNumber, Kind: api.Bytes}},
	} {
		if o, ok := flat.Blank(x.class, x.kind, x.size); !ok || !same(o, x.want) {
			t.Error(i, o, ok)
		}
	}
}

func TestNew(t *testing.T) {
	a := made(t)
	a.same()
	blanks(func(class, kind, size int) {
		before := a.m.Made()
		o := a.create(class, kind, size)
		if o == 0 && a.m.Made() != before || o != 0 && a.m.Made() != before+1 {
			t.Fatal(class, kind, size, a.m.Made())
		}
		a.is(o)
	})
	if a.m.Made() == 0 {
		t.Error("none")
	}
	a.same()
}

// TestRefused: what New refuses takes no number, and changes nothing.
func TestRefused(t *testing.T) {
	a := small(t)
	for _, x := range [][3]int{{0, 1, 1}, {1, 1, 1}, {3, 2, 1}, {-2, 1, 1}, {2, 0, 1}, {2, 3, 1}, {2, 1, -1}, {2, 2, 1001}, {2 * maxNumber * 2, 1, 1}} {
		if o := a.create(x[0], x[1], x[2]); o != 0 {
			t.Error(x, o)
		}
		a.same()
	}
	if o := a.create(2000, api.Words, 1000); o != 12 {
		t.Error("a class need not exist", o)
	}
	a.same()
}

func TestFetchAndSet(t *testing.T) {
	for _, kind := range []int{api.Words, api.Bytes} {
		a := small(t)
		for o := -3; o < 16; o++ {
			for i := -2; i < 5; i++ {
				a.get(o, kind, i)
				for _, v := range []int{0, 1, 2, 3, -1, -2, 4, 255, 256, 257, -256, 2*api.MaxSmall + 1, 2*api.MaxSmall + 3, 2*api.MinSmall + 1, 2*api.MinSmall - 1, 2 * maxNumber, 2*maxNumber + 2, 1<<32 + 1, 1 << 32, math.MaxInt, math.MinInt} {
					a.set(o, kind, i, v)
					a.get(o, kind, i)
				}
			}
		}
		a.same()
	}
}

// TestOneElement: with each Set and SetByte one element changes, and nothing else.
func TestOneElement(t *testing.T) {
	a := made(t)
	for range 3 {
		a.create(2, api.Words, 3)
		a.create(4, api.Bytes, 3)
	}
	for o := 2; o <= 12; o += 2 {
		for i := range 3 {
			kind := api.Words
			if o%4 == 0 {
				kind = api.Bytes
			}
			if e := a.set(o, kind, i, 10*o+i+1-i%2); e != api.OK {
				t.Fatal(o, i, e)
			}
			a.same()
		}
	}
}

func TestStrangers(t *testing.T) {
	a := small(t)
	for _, x := range strangers() {
		a.is(x)
		a.next(x)
		for _, kind := range []int{api.Words, api.Bytes} {
			for _, o := range []int{2, 4, 6, 8, 10, x} {
				for _, i := range []int{0, x, x + 1} {
					a.get(o, kind, i)
					a.set(o, kind, i, 1)
				}
			}
			a.set(2, kind, 0, x)
			a.set(4, kind, 0, x)
		}
		a.become(x, 2)
		a.become(2, x)
		a.become(x, x)
		a.same()
	}
	for _, x := range strangers() {
		a.collect(2, x, 8, 10, x)
		a.same()
	}
}

// TestOrder: of the errors that apply, the first one is returned.
func TestOrder(t *testing.T) {
	a := small(t)
	var none *flat.Memory
	for i, x := range []struct{ got, want api.Errno }{
		{none.Set(3, -1, 0), api.ErrNil},
		{none.SetByte(3, -1, 256), api.ErrNil},
		{a.m.Set(6, -1, 0), api.ErrNone},
		{a.m.Set(3, 0, 0), api.ErrNone},
		{a.m.Set(12, 0, 1), api.ErrNone},
		{a.m.Set(4, -1, 0), api.ErrKind},
		{a.m.Set(4, 0, 0), api.ErrKind},
		{a.m.Set(4, 0, 1), api.ErrKind},
		{a.m.Set(10, 0, 1), api.ErrKind},
		{a.m.Set(2, 3, 0), api.ErrIndex},
		{a.m.Set(2, -1, 1), api.ErrIndex},
		{a.m.Set(8, 0, 1), api.ErrIndex},
		{a.m.Set(2, 2, 0), api.ErrArg},
		{a.m.Set(2, 2, 12), api.OK},
		{a.m.SetByte(6, -1, 256), api.ErrNone},
		{a.m.SetByte(2, -1, 256), api.ErrKind},
		{a.m.SetByte(2, 0, 1), api.ErrKind},
		{a.m.SetByte(8, 0, 1), api.ErrKind},
		{a.m.SetByte(4, 2, 256), api.ErrIndex},
		{a.m.SetByte(10, 0, 1), api.ErrIndex},
		{a.m.SetByte(4, 1, 256), api.ErrArg},
		{a.m.SetByte(4, 1, -1), api.ErrArg},
		{a.m.SetByte(4, 1, 255), api.OK},
		{none.Become(2, 2), api.ErrNil},
		{a.m.Become(2, 6), api.ErrNone},
		{a.m.Become(6, 2), api.ErrNone},
		{a.m.Become(6, 6), api.ErrNone},
		{a.m.Become(2, 12), api.ErrNone},
		{a.m.Become(2, 1), api.ErrNone},
	} {
		if x.got != x.want {
			t.Error(i, x)
		}
	}
}

func TestBecome(t *testing.T) {
	for x := -1; x < 14; x++ {
		for y := -1; y < 14; y++ {
			a := small(t)
			a.become(x, y)
			a.same()
			a.become(x, y)
			a.same()
			a.become(y, x)
			a.set(x, api.Words, 0, 9)
			a.set(y, api.Bytes, 1, 9)
			a.same()
			a.collect(x)
			a.same()
		}
	}
}

// TestBecomeNames: an object that is exchanged keeps what it names, so one that names itself names the other one afterwards.
func TestBecomeNames(t *testing.T) {
	a := made(t)
	x, y, z := a.create(2, api.Words, 1), a.create(6, api.Bytes, 1), a.create(2, api.Words, 2)
	a.set(x, api.Words, 0, x)
	a.set(z, api.Words, 0, x)
	a.set(z, api.Words, 1, y)
	if a.become(x, y) != api.OK {
		t.Fatal("Become")
	}
	a.same()
	if o, e := a.m.Obj(y); e != api.OK || !same(o, api.Obj{Class: 2, Kind: api.Words, W: []int{x}}) {
		t.Error(o, e)
	}
	if o, e := a.m.Obj(x); e != api.OK || !same(o, api.Obj{Class: z, Kind: api.Bytes, B: []byte{0}}) {
		t.Error(o, e)
	}
	if o, e := a.m.Obj(z); e != api.OK || !same(o, api.Obj{Class: 2, Kind: api.Words, W: []int{x, y}}) {
		t.Error(o, e)
	}
}

// subsets are all lists of some of l, in their order.
func subsets(l []int) [][]int {
	if len(l) == 0 {
		return [][]int{nil}
	}
	var all [][]int
	for _, s := range subsets(l[1:]) {
		all = append(all, s, append([]int{l[0]}, s...))
	}
	return all
}

func TestNext(t *testing.T) {
	const n = 5
	var l []int
	for i := range n {
		l = append(l, 2*(i+1))
	}
	for _, kept := range subsets(l) {
		a := made(t)
		for range n {
			a.create(2000, api.Bytes, 0)
		}
		a.collect(kept...)
		if got := flat.All(a.m); !slices.Equal(got, kept) {
			t.Error(got, "want", kept)
		}
		a.same()
		if o := a.create(2, api.Words, 1); o != 2*(n+1) {
			t.Error("a number of an object that was removed is used again:", o)
		}
		a.same()
	}
	a := small(t)
	for o, want := range map[int]int{0: 2, 1: 2, 3: 2, -2: 2, 9: 2, 2: 4, 4: 8, 6: 8, 8: 10, 10: 0, 12: 0, 2 * maxNumber: 0, 2*maxNumber + 2: 2} {
		if got, ok := a.m.Next(o); got != want || ok != (want != 0) {
			t.Error(o, got, ok, "want", want)
		}
	}
}

// TestGraphs: of three objects, the first has two words, the second one, and the third is of bytes; each word and each class names one of the objects, or none.
func TestGraphs(t *testing.T) {
	names := []int{2, 4, 6, 8}
	words := append([]int{1, 5}, names...)
	roots := subsets([]int{2, 4, 6, 8, 5, 0})
	for _, class := range names {
		for _, v := range words {
			for _, w := range words {
				for _, u := range names {
					for i, l := range roots {
						a := made(t)
						a.create(class, api.Words, 2)
						a.create(8, api.Words, 1)
						a.create(u, api.Bytes, 8)
						a.set(2, api.Words, 0, v)
						a.set(2, api.Words, 1, w)
						a.set(4, api.Words, 0, v)
						a.set(6, api.Bytes, 3, 2) // bytes like those of a reference name nothing
						a.set(6, api.Bytes, 7, 4)
						a.collect(l...)
						if i%7 == 0 {
							a.same()
						} else if !slices.Equal(flat.All(a.m), a.p.all()) {
							t.Fatal(class, v, w, u, l, flat.All(a.m), "want", a.p.all())
						}
					}
				}
			}
		}
	}
}

func TestCollect(t *testing.T) {
	a := small(t)
	if n := a.collect(2, 4, 8, 10); n != 0 {
		t.Error(n)
	}
	if n := a.collect(10, 10, 3, -5, 0, 6, 12, 10); n != 1 { // 10 has the class 4, which has the class 2
		t.Error(n)
	}
	a.same()
	if n := a.collect(); n != 3 {
		t.Error(n)
	}
	a.same()
	if n := a.collect(2, 4); n != 0 {
		t.Error(n)
	}
	if o := a.create(2, api.Words, 1); o != 12 {
		t.Error(o)
	}
	a.same()
	if n := a.collect(13); n != 1 {
		t.Error(n)
	}
	if n := a.m.Made(); n != 6 {
		t.Error(n)
	}
	if n := made(t).collect(2, 4, 6); n != 0 {
		t.Error(n)
	}
}

// TestChain: what is reachable over many objects is visited without deep nesting, and each object once.
func TestChain(t *testing.T) {
	const n = 200000
	m := flat.New()
	for i := range n {
		o, e := m.New(2, api.Words, 2)
		if e != api.OK || o != 2*(i+1) {
			t.Fatal(i, o, e)
		}
		if e := m.Set(o, 0, o+2); e != api.OK {
			t.Fatal(e)
		}
	}
	if e := m.Set(2*n, 1, n); e != api.OK {
		t.Fatal(e)
	}
	if removed, e := m.Collect(2); removed != 0 || e != api.OK {
		t.Error(removed, e)
	}
	// Every object is of the class that is the first object, from which the chain begins.
	if removed, e := m.Collect(n + 2); removed != 0 || e != api.OK {
		t.Error(removed, e)
	}
	if e := m.Set(2, 0, 1); e != api.OK {
		t.Fatal(e)
	}
	if e := m.Set(2*n, 1, 1); e != api.OK {
		t.Fatal(e)
	}
	if removed, e := m.Collect(n + 2); removed != n/2-1 || e != api.OK {
		t.Error(removed, e)
	}
	if o, ok := m.Next(2); o != n+2 || !ok {
		t.Error(o, ok)
	}
	if l := flat.All(m); len(l) != n/2+1 || !slices.IsSorted(l) {
		t.Error(len(l))
	}
}

// TestNames: greatest objects that all name one another.
func TestNames(t *testing.T) {
	const n = 300
	a := made(t)
	for range n {
		a.create(2*n, api.Words, 1000)
	}
	for o := 2; o <= 2*n; o += 2 {
		for i := range 1000 {
			if e := a.m.Set(o, i, 2*((o+i)%n+1)); e != api.OK {
				t.Fatal(e)
			}
		}
	}
	if removed, e := a.m.Collect(8); removed != 0 || e != api.OK {
		t.Error(removed, e)
	}
	if removed, e := a.m.Collect(); removed != n || e != api.OK {
		t.Error(removed, e)
	}
}

// TestMany: the chapter sets no limit to how many objects are made, and a memory that was emptied is as quick as a new one.
func TestMany(t *testing.T) {
	m := flat.New()
	for i := range api.MaxIds + 2 {
		if o, e := m.New(2, api.Bytes, 0); o != 2*(i+1) || e != api.OK {
			t.Fatal(i, o, e)
		}
	}
	if n, e := m.Collect(2*api.MaxIds+4, 2*api.MaxIds); n != api.MaxIds-1 || e != api.OK {
		t.Error(n, e)
	}
	for range 1000 {
		if l := flat.All(m); !slices.Equal(l, []int{2, 2 * api.MaxIds, 2*api.MaxIds + 4}) {
			t.Fatal(l)
		}
		if n, e := m.Collect(2*api.MaxIds, 2*api.MaxIds+4); n != 0 || e != api.OK {
			t.Fatal(n, e)
		}
	}
	if m.Made() != api.MaxIds+2 {
		t.Error(m.Made())
	}
}

func TestNil(t *testing.T) {
	var m *flat.Memory
	for _, x := range append(strangers(), 1, 2, 4) {
		if o, e := m.New(x, 1, 1); o != 0 || e != api.ErrNil {
			t.Error(o, e)
		}
		if o, e := m.Obj(x); !zero(o) || e != api.ErrNil {
			t.Error(o, e)
		}
		if v, e := m.Fetch(x, 0); v != 0 || e != api.ErrNil {
			t.Error(v, e)
		}
		if v, e := m.Byte(x, 0); v != 0 || e != api.ErrNil {
			t.Error(v, e)
		}
		if e := m.Set(x, 0, 1); e != api.ErrNil {
			t.Error(e)
		}
		if e := m.SetByte(x, 0, 1); e != api.ErrNil {
			t.Error(e)
		}
		if e := m.Become(x, 2); e != api.ErrNil {
			t.Error(e)
		}
		if o, ok := m.Next(x); o != 0 || ok {
			t.Error(o, ok)
		}
		if n, e := m.Collect(x); n != 0 || e != api.ErrNil {
			t.Error(n, e)
		}
	}
	if n, e := m.Collect(); n != 0 || e != api.ErrNil || m.Made() != 0 {
		t.Error(n, e, m.Made())
	}
	// No Store at all is like a nil *Memory.
	for i, s := range []flat.Store{m, nil} {
		for _, x := range append(strangers(), 1, 2, 4) {
			if v, e := flat.Class(s, x); v != 0 || e != api.ErrNil {
				t.Error(i, v, e)
			}
			if v, e := flat.Size(s, x); v != 0 || e != api.ErrNil {
				t.Error(i, v, e)
			}
		}
		if l := flat.All(s); len(l) != 0 {
			t.Error(i, l)
		}
		valid := api.Obj{Class: 2, Kind: api.Bytes}
		for j, x := range []struct{ got, want api.Errno }{
			{flat.Load(s), api.OK},
			{flat.Load(s, valid), api.ErrNil},
			{flat.Load(s, valid, api.Obj{}), api.ErrArg},
			{flat.Load(s, api.Obj{}), api.ErrArg},
		} {
			if x.got != x.want {
				t.Error(i, j, x)
			}
		}
	}
}

// TestZero: a Memory that New did not make is one without objects.
func TestZero(t *testing.T) {
	var m flat.Memory
	a := pair{t, &m, &model{}}
	a.same()
	a.collect(2)
	a.become(2, 4)
	a.set(2, api.Words, 0, 1)
	a.same()
	a.create(2, api.Words, 1)
	a.set(2, api.Words, 0, 1)
	a.same()
	var n flat.Memory
	if e := flat.Load(&n, api.Obj{Class: 2, Kind: api.Bytes, B: []byte("a")}); e != api.OK || n.Made() != 1 {
		t.Error(e, n.Made())
	}
}

// TestObj: what Obj returns shares no memory with what is kept, or with what it returned before.
func TestObj(t *testing.T) {
	a := small(t)
	for range 2 {
		x, _ := a.m.Obj(2)
		y, _ := a.m.Obj(4)
		z, _ := a.m.Obj(2)
		w, _ := a.m.Obj(4)
		for i := range x.W {
			x.W[i] = 77
		}
		for i := range y.B {
			y.B[i] = 77
		}
		_ = append(x.W, 5, 5, 5)
		_ = append(y.B, 5, 5, 5)
		if !slices.Equal(z.W, []int{2, 4, -7}) || !bytes.Equal(w.B, []byte{200, 0}) {
			t.Error(z, w)
		}
		a.same()
	}
	x, _ := a.m.Obj(2)
	a.set(2, api.Words, 0, 9)
	y, _ := a.m.Obj(4)
	a.set(4, api.Bytes, 0, 9)
	if x.W[0] != 2 || y.B[0] != 200 {
		t.Error("an object that was returned has changed", x, y)
	}
	l := flat.All(a.m)
	k := flat.All(a.m)
	clear(l)
	_ = append(l, 1, 1)
	if !slices.Equal(k, []int{2, 4, 8, 10}) {
		t.Error(k)
	}
	a.same()
	o, _ := flat.Blank(2, api.Words, 2)
	o.W[0] = 9
	if p, _ := flat.Blank(2, api.Words, 2); !slices.Equal(p.W, []int{2, 2}) {
		t.Error(p)
	}
}

// TestArguments: roots and objects that are handed in are neither changed nor kept.
func TestArguments(t *testing.T) {
	a := small(t)
	roots := []int{10, 2, 2, 3, 8, 99, 99}
	part := roots[:5]
	a.collect(part...)
	if !slices.Equal(roots, []int{10, 2, 2, 3, 8, 99, 99}) {
		t.Error(roots)
	}
	clear(roots)
	a.same()

	m := flat.New()
	w, b := []int{4, 5, 6, 7}, []byte{1, 2, 3, 4}
	l := []api.Obj{{Class: 2, Kind: api.Words, W: w[:2]}, {Class: 2, Kind: api.Bytes, B: b[:2]}, {Class: 4, Kind: api.Words, W: w[:2]}}
	if e := flat.Load(m, l...); e != api.OK {
		t.Fatal(e)
	}
	want := []api.Obj{{Class: 2, Kind: api.Words, W: []int{4, 5}}, {Class: 2, Kind: api.Bytes, B: []byte{1, 2}}, {Class: 4, Kind: api.Words, W: []int{4, 5}}}
	if !reflect.DeepEqual(l, want) || !slices.Equal(w, []int{4, 5, 6, 7}) || !bytes.Equal(b, []byte{1, 2, 3, 4}) {
		t.Error(l, w, b)
	}
	clear(w)
	clear(b)
	for i, x := range want {
		if o, e := m.Obj(2 * (i + 1)); e != api.OK || !same(o, x) {
			t.Error(i, o, e)
		}
	}
	if e := m.Set(2, 0, 9); e != api.OK {
		t.Error(e)
	}
	if e := m.SetByte(4, 0, 9); e != api.OK {
		t.Error(e)
	}
	if w[0] != 0 || b[0] != 0 {
		t.Error("an object that was handed in is kept", w, b)
	}
	if v, e := m.Fetch(6, 0); v != 4 || e != api.OK {
		t.Error("two objects share words", v, e)
	}
}

// valid are objects that Load takes.
func valid() []api.Obj {
	return []api.Obj{
		{Class: 4, Kind: api.Words, W: []int{7, 2, 2 * maxNumber, 2*api.MinSmall + 1}},
		{Class: 2 * maxNumber, Kind: api.Bytes, B: []byte{0, 255, 0, 1}},
		{Class: 2, Kind: api.Words},
		{Class: 2, Kind: api.Bytes},
		{Class: 8, Kind: api.Words, W: slices.Repeat([]int{-3}, 1000)},
		{Class: 8, Kind: api.Bytes, B: bytes.Repeat([]byte{254}, 1000)},
		{Class: 6, Kind: api.Words, W: []int{12, 14, api.Nil}, B: []byte{}},
		{Class: 6, Kind: api.Bytes, W: []int{}, B: []byte("hi")},
	}
}

// invalid are objects that Load refuses.
func invalid() []api.Obj {
	return []api.Obj{
		{},
		{Class: 3, Kind: api.Words},
		{Class: 0, Kind: api.Bytes},
		{Class: -2, Kind: api.Bytes},
		{Class: 2*maxNumber + 2, Kind: api.Words},
		{Class: 2, Kind: 0},
		{Class: 2, Kind: 3},
		{Class: 2, Kind: api.Words, W: []int{1, 0}},
		{Class: 2, Kind: api.Words, W: []int{1, 2*api.MaxSmall + 3}},
		{Class: 2, Kind: api.Words, W: make([]int, 1001)},
		{Class: 2, Kind: api.Words, W: slices.Repeat([]int{1}, 1001)},
		{Class: 2, Kind: api.Bytes, B: make([]byte, 1001)},
		{Class: 2, Kind: api.Words, B: []byte{1}},
		{Class: 2, Kind: api.Bytes, W: []int{1}},
	}
}

func TestLoad(t *testing.T) {
	for n := range valid() {
		m := flat.New()
		l := valid()[:n+1]
		if e := flat.Load(m, l...); e != api.OK || m.Made() != n+1 {
			t.Fatal(n, e, m.Made())
		}
		for i, x := range l {
			if o, e := m.Obj(2 * (i + 1)); e != api.OK || !same(o, x) {
				t.Error(n, i, o, e)
			}
		}
		if e := flat.Load(m); e != api.ErrArg {
			t.Error("objects were made already", e)
		}
	}
	m := flat.New()
	if e := flat.Load(m); e != api.OK || m.Made() != 0 || len(flat.All(m)) != 0 {
		t.Error(e, m.Made())
	}
	for i, x := range invalid() {
		for at := range 3 {
			l := slices.Insert(valid()[:2], at, x)
			if e := flat.Load(m, l...); e != api.ErrArg || m.Made() != 0 || len(flat.All(m)) != 0 {
				t.Error(i, at, e, m.Made())
			}
		}
	}
	if e := flat.Load(m, valid()...); e != api.OK {
		t.Error(e)
	}
	// Objects that were made count, even if none is left.
	m = flat.New()
	if _, e := m.New(2, api.Bytes, 0); e != api.OK {
		t.Error(e)
	}
	if n, e := m.Collect(); n != 1 || e != api.OK {
		t.Error(n, e)
	}
	if e := flat.Load(m, valid()...); e != api.ErrArg || m.Made() != 1 || len(flat.All(m)) != 0 {
		t.Error(e, m.Made())
	}
}

// told is a Store that tells which calls it gets, and returns an error from one of them on.
type told struct {
	*flat.Memory
	calls []string
	left  int // so many calls come without an error
}

const broken = api.Errno(99)

func (s *told) note(l ...any) api.Errno {
	s.calls = append(s.calls, fmt.Sprintln(l...))
	s.left--
	if s.left < 0 {
		return broken
	}
	return api.OK
}

func (s *told) New(class int, kind int, size int) (int, api.Errno) {
	if e := s.note("New", class, kind, size); e != api.OK {
		return 0, e
	}
	return s.Memory.New(class, kind, size)
}

func (s *told) Set(o int, i int, v int) api.Errno {
	if e := s.note("Set", o, i, v); e != api.OK {
		return e
	}
	return s.Memory.Set(o, i, v)
}

func (s *told) SetByte(o int, i int, v int) api.Errno {
	if e := s.note("SetByte", o, i, v); e != api.OK {
		return e
	}
	return s.Memory.SetByte(o, i, v)
}

// Obj returns an object beside the error, which nobody may hand on.
func (s *told) Obj(o int) (api.Obj, api.Errno) {
	e := s.note("Obj", o)
	return api.Obj{Class: 8, Kind: api.Words, W: []int{1, 1, 1}}, e
}

func (s *told) Next(o int) (int, bool) {
	if e := s.note("Next", o); e != api.OK {
		return 0, false
	}
	return o + 6, true
}

// TestStore: the functions of the package do what they do by the calls of the Store.
func TestStore(t *testing.T) {
	l := []api.Obj{{Class: 4, Kind: api.Words, W: []int{7, 2}}, {Class: 2, Kind: api.Bytes, B: []byte{0, 5}}, {Class: 2, Kind: api.Words}}
	want := []string{"New 4 1 2\n", "Set 2 0 7\n", "Set 2 1 2\n", "New 2 2 2\n", "SetByte 4 0 0\n", "SetByte 4 1 5\n", "New 2 1 0\n"}
	for n := range len(want) + 1 {
		s := &told{Memory: flat.New(), left: n}
		e := flat.Load(s, l...)
		if n < len(want) && (e != broken || !slices.Equal(s.calls, want[:n+1])) {
			t.Error(n, e, s.calls)
		}
		if n == len(want) && (e != api.OK || !slices.Equal(s.calls, want)) {
			t.Error(n, e, s.calls)
		}
	}
	s := &told{Memory: flat.New(), left: 9}
	if e := flat.Load(s, l[0], api.Obj{}); e != api.ErrArg || len(s.calls) != 0 {
		t.Error(e, s.calls)
	}
	s = &told{left: 2}
	if v, e := flat.Class(s, 5); v != 8 || e != api.OK {
		t.Error(v, e)
	}
	if v, e := flat.Size(s, 6); v != 3 || e != api.OK {
		t.Error(v, e)
	}
	if v, e := flat.Class(s, 7); v != 0 || e != broken {
		t.Error(v, e)
	}
	if v, e := flat.Size(s, 8); v != 0 || e != broken {
		t.Error(v, e)
	}
	s = &told{left: 3}
	if l := flat.All(s); !slices.Equal(l, []int{6, 12, 18}) || !slices.Equal(s.calls, []string{"Next 0\n", "Next 6\n", "Next 12\n", "Next 18\n"}) {
		t.Error(l, s.calls)
	}
}

func TestIndependence(t *testing.T) {
	a, b := small(t), small(t)
	a.set(2, api.Words, 0, 9)
	a.set(4, api.Bytes, 1, 9)
	a.become(2, 4)
	a.create(2, api.Words, 1)
	b.same()
	a.collect()
	b.same()
	b.create(2, api.Bytes, 1)
	a.same()
	b.same()
}

func TestRandom(t *testing.T) {
	r := rand.New(rand.NewSource(10))
	for range 60 {
		a := made(t)
		for step := range 400 {
			o, q := r.Intn(2*len(a.p.l)+4), r.Intn(2*len(a.p.l)+4)
			kind := 1 + r.Intn(2)
			switch r.Intn(12) {
			case 0, 1, 2:
				a.create(2*r.Intn(len(a.p.l)+2), r.Intn(4), r.Intn(6)-1)
			case 3, 4, 5, 6:
				a.set(o, kind, r.Intn(6)-1, q)
			case 7, 8:
				a.get(o, kind, r.Intn(6)-1)
			case 9:
				a.become(o, q)
			case 10:
				a.next(o)
			case 11:
				if r.Intn(10) > 0 {
					continue
				}
				var roots []int
				for range len(a.p.l) / 2 {
					roots = append(roots, r.Intn(2*len(a.p.l)+4))
				}
				a.collect(roots...)
			}
			if step%50 == 0 {
				a.same()
			}
		}
		a.same()
	}
}

// TestRepeated: the same calls have the same results, whatever the order in which a map is gone through.
func TestRepeated(t *testing.T) {
	var first []int
	for try := range 30 {
		m := flat.New()
		for range 500 {
			if _, e := m.New(1000, api.Words, 1); e != api.OK {
				t.Fatal(e)
			}
		}
		var roots []int
		for i := range 100 {
			roots = append(roots, 2*(i*37%499+1))
		}
		n, e := m.Collect(roots...)
		if n != 399 || e != api.OK {
			t.Fatal(n, e)
		}
		l := flat.All(m)
		if try == 0 {
			first = l
		}
		if !slices.Equal(l, first) || !slices.IsSorted(l) || len(l) != 101 {
			t.Fatal(l)
		}
	}
}

func TestExample(t *testing.T) {
	m := flat.New()
	o, e := m.New(2, api.Words, 2)
	if o != 2 || e != api.OK {
		t.Error(o, e)
	}
	if e := m.Set(2, 0, 7); e != api.OK {
		t.Error(e)
	}
	if v, e := m.Fetch(2, 0); v != 7 || e != api.OK {
		t.Error(v, e)
	}
	if v, e := m.Fetch(2, 1); v != api.Nil || e != api.OK {
		t.Error(v, e)
	}
}
