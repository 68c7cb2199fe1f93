package bits_test

import (
	"fmt"
	"math"
	"math/rand"
	"slices"
	"testing"

	"webster/api"
	"webster/bits"
)

// model is a map in the plainest form, against which the package is held.
type model []bool

func (p model) taken() int {
	c := 0
	for _, b := range p {
		if b {
			c++
		}
	}
	return c
}

func (p model) inside(from, n int) bool {
	return n >= 1 && n <= len(p) && from >= 0 && from <= len(p)-n
}

func (p model) set(from, n int, taken bool, other api.Errno) api.Errno {
	if !p.inside(from, n) {
		return api.ErrArg
	}
	if slices.Contains(p[from:from+n], taken) {
		return other
	}
	for i := range n {
		p[from+i] = taken
	}
	return api.OK
}

func (p model) take(from, n int) api.Errno { return p.set(from, n, true, api.ErrFull) }

func (p model) free(from, n int) api.Errno { return p.set(from, n, false, api.ErrNone) }

func (p model) first(n int) (int, bool) {
	free := 0
	for i, b := range p {
		if free++; b {
			free = 0
		}
		if n >= 1 && free >= n {
			return i + 1 - n, true
		}
	}
	return 0, false
}

func (p model) runs() [][2]int {
	var l [][2]int
	for i, b := range p {
		switch {
		case !b:
		case i > 0 && p[i-1]:
			l[len(l)-1][1]++
		default:
			l = append(l, [2]int{i, 1})
		}
	}
	return l
}

// same fails the test unless m tells of its elements what p does.
func same(t *testing.T, m *bits.Map, p model) {
	t.Helper()
	if m.Len() != len(p) || m.Taken() != p.taken() {
		t.Fatal(m.Len(), len(p), m.Taken(), p.taken())
	}
	for i := -2; i < len(p)+130; i++ {
		if want := i >= 0 && i < len(p) && p[i]; m.Has(i) != want {
			t.Fatal("Has", i, m.Has(i))
		}
	}
	if r := m.Runs(); !slices.Equal(r, p.runs()) {
		t.Fatal("Runs", r, p.runs())
	}
}

// sameFirst fails the test unless First answers what p does, for each n that a map may have room for, and beyond.
func sameFirst(t *testing.T, m *bits.Map, p model) {
	t.Helper()
	for n := -2; n < len(p)+3; n++ {
		at, ok := m.First(n)
		if want, found := p.first(n); at != want || ok != found {
			t.Fatal("First", n, at, ok, want, found)
		}
	}
}

func made(t *testing.T, n int) *bits.Map {
	t.Helper()
	m, e := bits.New(n)
	if m == nil || e != api.OK {
		t.Fatal("New", n, m, e)
	}
	return m
}

func taken(t *testing.T, m *bits.Map, runs ...[2]int) {
	t.Helper()
	for _, r := range runs {
		if e := m.Take(r[0], r[1]); e != api.OK {
			t.Fatal("Take", r, e)
		}
	}
}

// sizes lie around the ends of words.
func sizes() []int {
	return []int{0, 1, 2, 8, 63, 64, 65, 100, 127, 128, 129, 191, 192, 193, 260}
}

// ends are the numbers at the ends of int, and some from which a sum wraps round.
func ends() []int {
	return []int{
		math.MaxInt, math.MaxInt - 1, math.MaxInt - 63, math.MaxInt - 64, math.MaxInt/2 + 1,
		math.MinInt, math.MinInt + 1, math.MinInt + 63, math.MinInt + 64, math.MinInt / 2,
		1 << 32, -1 << 32, api.MaxBits + 1, -api.MaxBits,
	}
}

func TestNew(t *testing.T) {
	for _, n := range append(sizes(), api.MaxBits-1, api.MaxBits) {
		m := made(t, n)
		if m.Len() != n || m.Taken() != 0 || len(m.Runs()) != 0 || m.Has(0) || m.Has(n-1) {
			t.Error(n, m.Len(), m.Taken(), m.Runs())
		}
		if at, ok := m.First(n); at != 0 || ok != (n > 0) {
			t.Error("First", n, at, ok)
		}
		if at, ok := m.First(n + 1); at != 0 || ok {
			t.Error("First", n+1, at, ok)
		}
	}
	for _, n := range []int{-1, -2, -64, math.MinInt, api.MaxBits + 1, api.MaxBits + 64, 1 << 32, math.MaxInt, math.MaxInt - 62} {
		if m, e := bits.New(n); m != nil || e != api.ErrArg {
			t.Error("New", n, m, e)
		}
	}
}

func TestExample(t *testing.T) {
	m := made(t, 8)
	taken(t, m, [2]int{0, 2}, [2]int{3, 1})
	for n, want := range map[int]int{1: 2, 2: 4, 3: 4, 4: 4} {
		if at, ok := m.First(n); at != want || !ok {
			t.Error(n, at, ok)
		}
	}
	if at, ok := m.First(5); at != 0 || ok {
		t.Error(at, ok)
	}
	if r := m.Runs(); !slices.Equal(r, [][2]int{{0, 2}, {3, 1}}) {
		t.Error(r)
	}
	if m.Taken() != 3 || m.Len() != 8 {
		t.Error(m.Taken(), m.Len())
	}
}

func TestTakeAndFreeErrors(t *testing.T) {
	for _, c := range []struct {
		from, n    int
		take, free api.Errno
	}{
		{0, 1, api.OK, api.ErrNone},
		{0, 10, api.OK, api.ErrNone},
		{0, 11, api.ErrFull, api.ErrNone},
		{9, 2, api.ErrFull, api.ErrNone},
		{10, 1, api.ErrFull, api.OK},
		{10, 110, api.ErrFull, api.OK},
		{10, 111, api.ErrFull, api.ErrNone},
		{64, 1, api.ErrFull, api.OK},
		{119, 1, api.ErrFull, api.OK},
		{119, 2, api.ErrFull, api.ErrNone},
		{120, 1, api.OK, api.ErrNone},
		{120, 10, api.OK, api.ErrNone},
		{129, 1, api.OK, api.ErrNone},
		{0, 130, api.ErrFull, api.ErrNone},
		{0, 0, api.ErrArg, api.ErrArg},
		{10, 0, api.ErrArg, api.ErrArg},
		{10, -1, api.ErrArg, api.ErrArg},
		{120, -1, api.ErrArg, api.ErrArg},
		{130, 0, api.ErrArg, api.ErrArg},
		{131, -1, api.ErrArg, api.ErrArg},
		{130, 1, api.ErrArg, api.ErrArg},
		{191, 1, api.ErrArg, api.ErrArg},
		{192, 1, api.ErrArg, api.ErrArg},
		{129, 2, api.ErrArg, api.ErrArg},
		{120, 11, api.ErrArg, api.ErrArg},
		{10, 121, api.ErrArg, api.ErrArg},
		{0, 131, api.ErrArg, api.ErrArg},
		{-1, 1, api.ErrArg, api.ErrArg},
		{-1, 2, api.ErrArg, api.ErrArg},
		{-1, 131, api.ErrArg, api.ErrArg},
		{-64, 1, api.ErrArg, api.ErrArg},
		{math.MaxInt, 1, api.ErrArg, api.ErrArg},
		{math.MaxInt, math.MaxInt, api.ErrArg, api.ErrArg},
		{1, math.MaxInt, api.ErrArg, api.ErrArg},
		{math.MaxInt - 1, 3, api.ErrArg, api.ErrArg},
		{math.MinInt, 1, api.ErrArg, api.ErrArg},
		{math.MinInt, math.MaxInt, api.ErrArg, api.ErrArg},
		{math.MinInt + 1, math.MaxInt, api.ErrArg, api.ErrArg},
		{math.MinInt, math.MinInt, api.ErrArg, api.ErrArg},
		{0, math.MinInt, api.ErrArg, api.ErrArg},
		{math.MaxInt, math.MinInt, api.ErrArg, api.ErrArg},
	} {
		m, p := made(t, 130), make(model, 130)
		taken(t, m, [2]int{10, 110})
		p.take(10, 110)
		if e := m.Take(c.from, c.n); e != c.take {
			t.Errorf("Take(%d, %d) = %d; want %d", c.from, c.n, e, c.take)
		}
		p.take(c.from, c.n)
		same(t, m, p)

		m, p = made(t, 130), make(model, 130)
		taken(t, m, [2]int{10, 110})
		p.take(10, 110)
		if e := m.Free(c.from, c.n); e != c.free {
			t.Errorf("Free(%d, %d) = %d; want %d", c.from, c.n, e, c.free)
		}
		p.free(c.from, c.n)
		same(t, m, p)
	}
}

// TestNil: the calls on a nil map, with good arguments and with bad ones.
func TestNil(t *testing.T) {
	var m *bits.Map
	for _, a := range append(ends(), -1, 0, 1, 2, 64) {
		for _, b := range append(ends(), -1, 0, 1, 2, 64) {
			if m.Take(a, b) != api.ErrNil || m.Free(a, b) != api.ErrNil {
				t.Error(a, b, m.Take(a, b), m.Free(a, b))
			}
		}
		if at, ok := m.First(a); at != 0 || ok || m.Has(a) {
			t.Error(a, at, ok, m.Has(a))
		}
	}
	if m.Len() != 0 || m.Taken() != 0 || len(m.Runs()) != 0 {
		t.Error(m.Len(), m.Taken(), m.Runs())
	}
}

// TestEmpty: a map without elements has none to take, to free, or to tell of.
func TestEmpty(t *testing.T) {
	m := made(t, 0)
	for _, a := range append(ends(), -1, 0, 1, 2, 64) {
		for _, b := range append(ends(), -1, 0, 1, 2, 64) {
			if m.Take(a, b) != api.ErrArg || m.Free(a, b) != api.ErrArg {
				t.Error(a, b, m.Take(a, b), m.Free(a, b))
			}
		}
	}
	same(t, m, model{})
	sameFirst(t, m, model{})
}

// TestEndsOfInt: numbers far from the map are refused, or not found, and change nothing.
func TestEndsOfInt(t *testing.T) {
	for _, size := range []int{1, 64, 130} {
		for _, full := range []bool{false, true} {
			m, p := made(t, size), make(model, size)
			if full {
				taken(t, m, [2]int{0, size})
				p.take(0, size)
			}
			for _, a := range ends() {
				if at, ok := m.First(a); at != 0 || ok || m.Has(a) {
					t.Error(a, at, ok, m.Has(a))
				}
				for _, b := range append(ends(), -1, 0, 1, 2, 64, size) {
					if m.Take(a, b) != api.ErrArg || m.Free(a, b) != api.ErrArg || m.Take(b, a) != api.ErrArg || m.Free(b, a) != api.ErrArg {
						t.Error(size, full, a, b)
					}
				}
			}
			same(t, m, p)
		}
	}
}

// TestEveryState: each map of up to nine elements, in each state, and each run in it and around it.
func TestEveryState(t *testing.T) {
	for size := range 10 {
		for state := range 1 << size {
			p := make(model, size)
			for i := range p {
				p[i] = state>>i&1 == 1
			}
			m := made(t, size)
			taken(t, m, p.runs()...)
			same(t, m, p)
			sameFirst(t, m, p)
			for from := -2; from < size+2; from++ {
				for n := -2; n < size+4; n++ {
					both(t, m, p, from, n)
				}
			}
		}
	}
}

// both tries Take and Free of a run, each on a map that p tells of, and takes back what was done.
func both(t *testing.T, m *bits.Map, p model, from, n int) {
	t.Helper()
	before := slices.Clone(p)
	e := m.Take(from, n)
	if want := p.take(from, n); e != want {
		t.Fatalf("Take(%d, %d) = %d; want %d in %v", from, n, e, want, before)
	}
	same(t, m, p)
	if e == api.OK && (m.Free(from, n) != api.OK || p.free(from, n) != api.OK) {
		t.Fatal("Free", from, n, before)
	}
	same(t, m, before)
	e = m.Free(from, n)
	if want := p.free(from, n); e != want {
		t.Fatalf("Free(%d, %d) = %d; want %d in %v", from, n, e, want, before)
	}
	same(t, m, p)
	if e == api.OK && (m.Take(from, n) != api.OK || p.take(from, n) != api.OK) {
		t.Fatal("Take", from, n, before)
	}
	same(t, m, before)
}

// TestEveryRun: each run of maps of one word and more, alone in a free map and alone free in a taken one.
func TestEveryRun(t *testing.T) {
	for _, size := range []int{63, 64, 65, 130} {
		m := made(t, size)
		for from := range size {
			for n := 1; n <= size-from; n++ {
				if e := m.Take(from, n); e != api.OK {
					t.Fatal("Take", size, from, n, e)
				}
				if r := m.Runs(); !slices.Equal(r, [][2]int{{from, n}}) || m.Taken() != n {
					t.Fatal(size, from, n, r, m.Taken())
				}
				if e := m.Free(from, n); e != api.OK {
					t.Fatal("Free", size, from, n, e)
				}
				if m.Taken() != 0 {
					t.Fatal(size, from, n, m.Taken())
				}
			}
		}
		taken(t, m, [2]int{0, size})
		for from := range size {
			for n := 1; n <= size-from; n++ {
				if e := m.Free(from, n); e != api.OK || m.Taken() != size-n {
					t.Fatal("Free", size, from, n, e, m.Taken())
				}
				for _, k := range []int{1, n} {
					if at, ok := m.First(k); at != from || !ok {
						t.Fatal("First", size, from, n, k, at, ok)
					}
				}
				if at, ok := m.First(n + 1); at != 0 || ok {
					t.Fatal("First", size, from, n, at, ok)
				}
				if e := m.Take(from, n); e != api.OK || m.Taken() != size {
					t.Fatal("Take", size, from, n, e, m.Taken())
				}
			}
		}
	}
}

// TestOneOtherElement: a run is refused if just one of its elements stands in the way, wherever that is.
func TestOneOtherElement(t *testing.T) {
	const size = 130
	free, full := made(t, size), made(t, size)
	taken(t, full, [2]int{0, size})
	for i := range size {
		taken(t, free, [2]int{i, 1})
		if e := full.Free(i, 1); e != api.OK {
			t.Fatal(i, e)
		}
		for _, r := range [][2]int{{0, size}, {i, 1}, {0, i + 1}, {i, size - i}} {
			if e := free.Take(r[0], r[1]); e != api.ErrFull {
				t.Fatal("Take", i, r, e)
			}
			if e := full.Free(r[0], r[1]); e != api.ErrNone {
				t.Fatal("Free", i, r, e)
			}
		}
		if free.Taken() != 1 || full.Taken() != size-1 {
			t.Fatal(i, free.Taken(), full.Taken())
		}
		taken(t, full, [2]int{i, 1})
		if e := free.Free(i, 1); e != api.OK {
			t.Fatal(i, e)
		}
	}
}

// TestFirstAmongGaps: gaps of growing length, parted by one taken element each, and by several.
func TestFirstAmongGaps(t *testing.T) {
	for _, wall := range []int{1, 2, 63, 64, 65, 200} {
		var p model
		for gap := 1; gap <= 140; gap++ {
			p = append(p, slices.Repeat(model{true}, wall)...)
			p = append(p, make(model, gap)...)
		}
		m := made(t, len(p))
		taken(t, m, p.runs()...)
		same(t, m, p)
		at := 0
		for n := 1; n <= 140; n++ {
			at += wall
			if got, ok := m.First(n); got != at || !ok {
				t.Fatal(wall, n, got, ok, at)
			}
			at += n
		}
		if got, ok := m.First(141); got != 0 || ok {
			t.Fatal(wall, got, ok)
		}
	}
}

// TestGreatest: the greatest map, all of it in one run, and element by element as First tells.
func TestGreatest(t *testing.T) {
	m := made(t, api.MaxBits)
	taken(t, m, [2]int{0, api.MaxBits})
	if r := m.Runs(); !slices.Equal(r, [][2]int{{0, api.MaxBits}}) || m.Taken() != api.MaxBits || !m.Has(api.MaxBits-1) || m.Has(api.MaxBits) {
		t.Fatal(r, m.Taken())
	}
	if at, ok := m.First(1); at != 0 || ok {
		t.Fatal(at, ok)
	}
	if e := m.Free(api.MaxBits-1, 1); e != api.OK {
		t.Fatal(e)
	}
	if at, ok := m.First(1); at != api.MaxBits-1 || !ok {
		t.Fatal(at, ok)
	}
	if e := m.Free(0, api.MaxBits-1); e != api.OK {
		t.Fatal(e)
	}
	for i := range api.MaxBits {
		if at, ok := m.First(1); at != i || !ok {
			t.Fatal(i, at, ok)
		}
		taken(t, m, [2]int{i, 1})
	}
	for i := 0; i < api.MaxBits; i += 2 {
		if e := m.Free(i, 1); e != api.OK {
			t.Fatal(i, e)
		}
	}
	if at, ok := m.First(2); at != 0 || ok || len(m.Runs()) != api.MaxBits/2 || m.Taken() != api.MaxBits/2 {
		t.Fatal(at, ok, len(m.Runs()), m.Taken())
	}
}

// TestLongWork: many calls one after another, held against the model after each one.
func TestLongWork(t *testing.T) {
	r := rand.New(rand.NewSource(1))
	for _, size := range sizes() {
		t.Run(fmt.Sprint(size), func(t *testing.T) {
			m, p := made(t, size), make(model, size)
			for range 600 {
				from, n := r.Intn(size+4)-2, r.Intn(size/3+4)-1
				if r.Intn(2) == 0 {
					if e, want := m.Take(from, n), p.take(from, n); e != want {
						t.Fatal("Take", from, n, e, want)
					}
				} else if e, want := m.Free(from, n), p.free(from, n); e != want {
					t.Fatal("Free", from, n, e, want)
				}
				same(t, m, p)
				sameFirst(t, m, p)
			}
		})
	}
}

// TestIndependent: maps share nothing with each other, nor with the lists that they answer.
func TestIndependent(t *testing.T) {
	a, b := made(t, 100), made(t, 100)
	taken(t, a, [2]int{0, 10}, [2]int{20, 70})
	if b.Taken() != 0 {
		t.Error(b.Taken())
	}
	taken(t, b, [2]int{5, 5})
	if a.Taken() != 80 || b.Taken() != 5 {
		t.Error(a.Taken(), b.Taken())
	}
	r, s := a.Runs(), a.Runs()
	for i := range r[:cap(r)] {
		r[:cap(r)][i] = [2]int{-1, -1}
	}
	want := [][2]int{{0, 10}, {20, 70}}
	if !slices.Equal(s, want) || !slices.Equal(a.Runs(), want) {
		t.Error(s, a.Runs())
	}
}
