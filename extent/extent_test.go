package extent_test

import (
	"bytes"
	"fmt"
	"math"
	"math/rand"
	"slices"
	"testing"

	"webster/api"
	"webster/disk"
	"webster/extent"
)

// model is a space in the plainest form, against which the package is held.
type model struct {
	sectors [][api.Sector]byte
	live    map[api.Extent][]byte
}

// need returns the number of sectors that n bytes fill or begin, and 1 for none.
func need(n int) int {
	c := 1
	for ; n > api.Sector; n -= api.Sector {
		c++
	}
	return c
}

// free reports whether no live extent but the one left out has the sector i.
func (p *model) free(i int, left api.Extent) bool {
	for x := range p.live {
		if x != left && x.From <= i && i < x.From+x.N {
			return false
		}
	}
	return true
}

// first returns the first n free sectors side by side, with those of the extent left out among them; -1 if there are none.
func (p *model) first(n int, left api.Extent) int {
	run := 0
	for i := range p.sectors {
		run++
		if !p.free(i, left) {
			run = 0
		}
		if run == n {
			return i - n + 1
		}
	}
	return -1
}

func (p *model) store(from int, b []byte) api.Extent {
	x := api.Extent{From: from, N: need(len(b)), Size: len(b)}
	p.live[x] = bytes.Clone(b)
	for i, c := range b {
		p.sectors[from+i/api.Sector][i%api.Sector] = c
	}
	return x
}

func (p *model) remove(x api.Extent) {
	for i := x.From; i < x.From+x.N; i++ {
		p.sectors[i] = [api.Sector]byte{}
	}
	delete(p.live, x)
}

func (p *model) put(b []byte) (api.Extent, api.Errno) {
	from := p.first(need(len(b)), api.Extent{})
	if from < 0 {
		return api.Extent{}, api.ErrFull
	}
	return p.store(from, b), api.OK
}

func (p *model) set(x api.Extent, b []byte) (api.Extent, api.Errno) {
	if _, ok := p.live[x]; !ok {
		return api.Extent{}, api.ErrNone
	}
	from := x.From
	if need(len(b)) != x.N {
		from = p.first(need(len(b)), x)
	}
	if from < 0 {
		return api.Extent{}, api.ErrFull
	}
	p.remove(x)
	return p.store(from, b), api.OK
}

func (p *model) release(l ...api.Extent) api.Errno {
	for i, x := range l {
		if _, ok := p.live[x]; !ok || slices.Contains(l[:i], x) {
			return api.ErrNone
		}
	}
	for _, x := range l {
		p.remove(x)
	}
	return api.OK
}

func (p *model) used() int {
	c := 0
	for x := range p.live {
		c += x.N
	}
	return c
}

// extents returns the live ones, by their first sectors.
func (p *model) extents() []api.Extent {
	var l []api.Extent
	for x := range p.live {
		l = append(l, x)
	}
	slices.SortFunc(l, func(x, y api.Extent) int { return x.From - y.From })
	return l
}

// pair is a space beside the model that tells what it must answer.
type pair struct {
	*testing.T
	s *extent.Space
	p *model
}

func made(t *testing.T, n int) pair {
	t.Helper()
	s, e := extent.New(n)
	if s == nil || e != api.OK {
		t.Fatal("New", n, s, e)
	}
	return pair{t, s, &model{make([][api.Sector]byte, n), map[api.Extent][]byte{}}}
}

// block returns n bytes that hang on seed, none of which is 0.
func block(seed, n int) []byte {
	b := make([]byte, n)
	for i := range b {
		b[i] = byte(1 + (seed*31+i)%255)
	}
	return b
}

// laid returns a space of n sectors, all of them taken by extents of one sector, of which those whose bits are in holes are freed.
func laid(t *testing.T, n int, holes int) pair {
	t.Helper()
	x := made(t, n)
	var l []api.Extent
	for i := range n {
		y := x.put(block(i, 1+i*9%api.Sector))
		if holes>>i&1 == 1 {
			l = append(l, y)
		}
	}
	x.free(l...)
	return x
}

func (x pair) put(b []byte) api.Extent {
	x.Helper()
	y, e := x.s.Put(b)
	if want, f := x.p.put(b); y != want || e != f {
		x.Fatal("Put", len(b), y, e, "want", want, f)
	}
	return y
}

func (x pair) get(y api.Extent) []byte {
	x.Helper()
	b, e := x.s.Get(y)
	want, ok := x.p.live[y]
	if !ok && (e != api.ErrNone || len(b) != 0) || ok && (e != api.OK || !bytes.Equal(b, want)) {
		x.Fatal("Get", y, b, e, "want", want, ok)
	}
	return b
}

func (x pair) set(y api.Extent, b []byte) api.Extent {
	x.Helper()
	z, e := x.s.Set(y, b)
	if want, f := x.p.set(y, b); z != want || e != f {
		x.Fatal("Set", y, len(b), z, e, "want", want, f)
	}
	return z
}

func (x pair) free(l ...api.Extent) {
	x.Helper()
	if e, want := x.s.Free(l...), x.p.release(l...); e != want {
		x.Fatal("Free", l, e, "want", want)
	}
}

// same fails the test unless the space is what the model is, down to the bytes of its sectors, which its disk tells.
func (x pair) same() {
	x.Helper()
	if x.s.Len() != len(x.p.sectors) || x.s.Used() != x.p.used() {
		x.Fatal("Len", x.s.Len(), "Used", x.s.Used(), "want", len(x.p.sectors), x.p.used())
	}
	for i, want := range x.p.sectors {
		if b, e := x.s.Read(i); e != api.OK || !bytes.Equal(b, want[:]) {
			x.Fatal("sector", i, b, e, "want", want)
		}
	}
	end := 0
	for _, y := range x.p.extents() {
		if y.From < end || y.N < 1 {
			x.Fatal("a sector of two extents", x.p.extents())
		}
		end = y.From + y.N
		x.get(y)
	}
	if end > len(x.p.sectors) {
		x.Fatal("an extent beyond the space", x.p.extents())
	}
}

// refused fails the test unless all calls refuse the extent y, and change nothing.
func (x pair) refused(y api.Extent) {
	x.Helper()
	if b, e := x.s.Get(y); len(b) != 0 || e != api.ErrNone {
		x.Fatal("Get", y, b, e)
	}
	for _, n := range []int{0, 1, y.Size, api.Sector, api.Sector + 1, len(x.p.sectors) * api.Sector, len(x.p.sectors)*api.Sector + 1} {
		if n < 0 || n > 1<<16 {
			continue
		}
		if z, e := x.s.Set(y, block(n, n)); z != (api.Extent{}) || e != api.ErrNone {
			x.Fatal("Set", y, n, z, e)
		}
	}
	l := x.p.extents()
	for _, l := range [][]api.Extent{{y}, {y, y}, append([]api.Extent{y}, l...), append(slices.Clone(l), y)} {
		if e := x.s.Free(l...); e != api.ErrNone {
			x.Fatal("Free", l, e)
		}
	}
	x.same()
}

// strangers returns extents that differ from y, most of them in one field alone; some would be like it in another kind of integer.
func strangers(y api.Extent) []api.Extent {
	var l []api.Extent
	for _, d := range []int{
		1, -1, 2, -2, api.Sector, -api.Sector, 1 << 8, 1 << 16, 1 << 32, -1 << 32, 1 << 58, 1 << 62, -1 << 62, math.MaxInt, math.MinInt,
	} {
		l = append(l,
			api.Extent{From: y.From + d, N: y.N, Size: y.Size},
			api.Extent{From: y.From, N: y.N + d, Size: y.Size},
			api.Extent{From: y.From, N: y.N, Size: y.Size + d},
		)
	}
	for _, n := range []int{0, -1, math.MaxInt, math.MinInt} {
		l = append(l, api.Extent{From: n, N: n, Size: n}, api.Extent{From: n}, api.Extent{N: n}, api.Extent{Size: n})
	}
	return slices.DeleteFunc(l, func(x api.Extent) bool { return x == y })
}

func TestSectors(t *testing.T) {
	for size := -200; size < 3000; size++ {
		if n := extent.Sectors(size); n != need(size) {
			t.Error(size, n, need(size))
		}
	}
	for size, want := range map[int]int{
		math.MinInt: 1, math.MinInt + 1: 1, math.MinInt + 63: 1, math.MinInt / api.Sector: 1, -1 << 32: 1, -api.Sector: 1, -1: 1,
		0: 1, 1: 1, 63: 1, 64: 1, 65: 2, 127: 2, 128: 2, 129: 3,
		api.MaxSectors * api.Sector: api.MaxSectors, api.MaxSectors*api.Sector + 1: api.MaxSectors + 1,
		1<<31 - 1: 1 << 25, 1 << 31: 1 << 25, 1<<31 + 1: 1<<25 + 1, 1 << 32: 1 << 26, 1<<32 + 1: 1<<26 + 1,
		math.MaxInt: 1 << 57, math.MaxInt - 62: 1 << 57, math.MaxInt - 63: 1<<57 - 1, math.MaxInt - 64: 1<<57 - 1,
		math.MaxInt - 126: 1<<57 - 1, math.MaxInt - 127: 1<<57 - 2,
	} {
		if n := extent.Sectors(size); n != want {
			t.Error(size, n, want)
		}
	}
}

// TestNew: the sizes are those of disks, and so is the error.
func TestNew(t *testing.T) {
	for _, n := range []int{0, 1, 2, 3, api.Sector, 1000, api.MaxSectors - 1, api.MaxSectors} {
		made(t, n).same()
	}
	for _, n := range []int{
		-1, -2, -api.Sector, -api.MaxSectors, api.MaxSectors + 1, api.MaxSectors + 2, api.MaxSectors * api.Sector, api.MaxBits, api.MaxBits + 1,
		1 << 32, 1<<32 + 1, 1 << 58, 1<<58 + 1, -1 << 58, math.MaxInt, math.MaxInt / api.Sector, math.MinInt, math.MinInt + 1,
	} {
		_, want := disk.New(n)
		if s, e := extent.New(n); s != nil || e != want || e != api.ErrArg {
			t.Error("New", n, s, e, want)
		}
	}
}

func TestExample(t *testing.T) {
	s, e := extent.New(3)
	if e != api.OK || s.Len() != 3 || s.Used() != 0 {
		t.Fatal(e)
	}
	if x, e := s.Put(make([]byte, 65)); e != api.OK || x != (api.Extent{From: 0, N: 2, Size: 65}) || s.Used() != 2 {
		t.Error(x, e, s.Used())
	}
	if x, e := s.Put(nil); e != api.OK || x != (api.Extent{From: 2, N: 1, Size: 0}) || s.Used() != 3 {
		t.Error(x, e, s.Used())
	}
	if x, e := s.Put([]byte{1}); e != api.ErrFull || x != (api.Extent{}) || s.Used() != 3 {
		t.Error(x, e, s.Used())
	}
}

// TestNil: the calls on a nil space, with good arguments and with bad ones.
func TestNil(t *testing.T) {
	var s *extent.Space
	if s.Used() != 0 || s.Len() != 0 {
		t.Error(s.Used(), s.Len())
	}
	for _, n := range []int{0, 1, api.Sector, api.Sector + 1, 1 << 20} {
		if x, e := s.Put(make([]byte, n)); x != (api.Extent{}) || e != api.ErrNil {
			t.Error("Put", n, x, e)
		}
	}
	if x, e := s.Put(nil); x != (api.Extent{}) || e != api.ErrNil {
		t.Error("Put", x, e)
	}
	if s.Free() != api.ErrNil || s.Free([]api.Extent{}...) != api.ErrNil {
		t.Error("Free", s.Free())
	}
	one := api.Extent{From: 0, N: 1, Size: 1}
	for _, x := range append(strangers(one), one) {
		if b, e := s.Get(x); len(b) != 0 || e != api.ErrNil {
			t.Error("Get", x, b, e)
		}
		for _, b := range [][]byte{nil, {}, {1}, make([]byte, 1<<20)} {
			if y, e := s.Set(x, b); y != (api.Extent{}) || e != api.ErrNil {
				t.Error("Set", x, y, e)
			}
		}
		if s.Free(x) != api.ErrNil || s.Free(x, x) != api.ErrNil {
			t.Error("Free", x, s.Free(x))
		}
	}
}

// TestEmpty: a space without sectors has room for nothing, not even for no bytes; nor has one that New did not make.
func TestEmpty(t *testing.T) {
	none := &model{live: map[api.Extent][]byte{}}
	for _, x := range []pair{made(t, 0), {t, new(extent.Space), none}} {
		for _, b := range [][]byte{nil, {}, {1}, make([]byte, api.Sector), make([]byte, api.Sector+1), make([]byte, 1<<20)} {
			if y, e := x.s.Put(b); y != (api.Extent{}) || e != api.ErrFull {
				t.Error("Put", len(b), y, e)
			}
		}
		for _, y := range append(strangers(api.Extent{From: 0, N: 1, Size: 0}), api.Extent{From: 0, N: 1, Size: 0}) {
			x.refused(y)
		}
		x.free()
		x.same()
	}
}

// TestPutSizes: bytes of each length that a space has room for, and some that it has none for; each is read back, and leaves nothing behind.
func TestPutSizes(t *testing.T) {
	for n := 1; n <= 4; n++ {
		x := made(t, n)
		for size := range (n+1)*api.Sector + 2 {
			y := x.put(block(size, size))
			if fits := size <= n*api.Sector; fits != (x.s.Used() > 0) {
				t.Fatal(n, size, x.s.Used())
			}
			x.same()
			if y.N > 0 {
				x.free(y)
			}
			x.same()
		}
	}
}

// TestPutRoom: bytes of just the sectors that are there, and of one more, also where the free ones are enough but not side by side.
func TestPutRoom(t *testing.T) {
	for n := 1; n < 6; n++ {
		x := made(t, n)
		x.put(block(1, n*api.Sector+1))
		x.same()
		x.put(block(1, n*api.Sector))
		x.same()
		x.put(nil)
		x.same()
	}
	x := laid(t, 5, 0b10101)
	if y, e := x.s.Put(block(1, api.Sector+1)); y != (api.Extent{}) || e != api.ErrFull {
		t.Error(y, e)
	}
	x.same()
}

// TestFirstFit: in every state of free and taken sectors, bytes for any number of sectors go to the first place that is long enough, and are freed without a trace.
func TestFirstFit(t *testing.T) {
	const n = 8
	for holes := range 1 << n {
		x := laid(t, n, holes)
		for sectors := range n + 2 {
			y := x.put(block(holes, sectors*api.Sector))
			x.same()
			if y.N > 0 {
				x.free(y)
				x.same()
			}
		}
	}
}

// TestSetEverywhere: in every state of the sectors around it, an extent of each length that stands at each place is set to bytes for any number of sectors.
func TestSetEverywhere(t *testing.T) {
	const n = 6
	for holes := range 1 << n {
		for from := range n {
			for long := 1; from+long <= n; long++ {
				for sectors := range n + 2 {
					x, y := around(t, n, holes, from, long)
					x.set(y, block(from, sectors*api.Sector))
					x.same()
				}
			}
		}
	}
}

// around returns a space of n sectors with one extent of long sectors from the index from on, and extents of one sector around it, of which those whose bits are in holes are freed.
func around(t *testing.T, n, holes, from, long int) (pair, api.Extent) {
	t.Helper()
	x := made(t, n)
	var y api.Extent
	var l []api.Extent
	for i := 0; i < n; i++ {
		if i == from {
			y = x.put(block(i, long*api.Sector-1))
			i += long - 1
			continue
		}
		if z := x.put(block(i, 1+i)); holes>>i&1 == 1 {
			l = append(l, z)
		}
	}
	x.free(l...)
	if y.From != from || y.N != long {
		t.Fatal(holes, from, long, y)
	}
	return x, y
}

// TestSetInPlace: bytes for as many sectors are written where the old ones are, though there is room ahead, and no old byte remains.
func TestSetInPlace(t *testing.T) {
	for n := 1; n <= 3; n++ {
		x := made(t, 12)
		ahead := x.put(block(1, 4*api.Sector))
		y := x.put(block(2, n*api.Sector))
		x.put(block(3, 70))
		x.free(ahead)
		for size := range (n + 1) * api.Sector {
			if need(size) != n {
				continue
			}
			old := y
			y = x.set(y, block(size, size))
			if y != (api.Extent{From: 4, N: n, Size: size}) {
				t.Fatal(old, size, y)
			}
			x.same()
			if old != y {
				x.refused(old)
			}
			y = x.set(y, block(4, n*api.Sector))
			x.same()
		}
	}
}

// TestSetSame: bytes of the same length leave the extent live under the same name.
func TestSetSame(t *testing.T) {
	for _, size := range []int{0, 1, api.Sector, api.Sector + 1, 3 * api.Sector} {
		x := made(t, 5)
		x.put([]byte{5})
		y := x.put(block(1, size))
		for seed := range 4 {
			if z := x.set(y, block(seed, size)); z != y {
				t.Fatal(size, y, z)
			}
			x.same()
		}
		x.free(y)
		x.same()
		x.refused(y)
	}
}

// TestSetMoves: fewer and more sectors than the extent has, with room ahead, behind, around, and in the extent itself alone.
func TestSetMoves(t *testing.T) {
	const s = api.Sector
	for _, c := range []struct {
		puts  []int // bytes of what is put, one behind another
		holes []int // which of these are freed
		i     int   // which one is set
		size  int
		want  api.Extent
		e     api.Errno
	}{
		{[]int{3 * s, s}, nil, 0, s, api.Extent{From: 0, N: 1, Size: s}, api.OK},
		{[]int{3 * s, s}, nil, 0, 0, api.Extent{From: 0, N: 1, Size: 0}, api.OK},
		{[]int{s, 3 * s}, []int{0}, 1, s, api.Extent{From: 0, N: 1, Size: s}, api.OK},
		{[]int{s, 3 * s}, []int{0}, 1, 2 * s, api.Extent{From: 0, N: 2, Size: 2 * s}, api.OK},
		{[]int{s, 3 * s}, []int{0}, 1, 4 * s, api.Extent{From: 0, N: 4, Size: 4 * s}, api.OK},
		{[]int{s, 3 * s, s, s}, []int{0, 2}, 1, 5 * s, api.Extent{From: 0, N: 5, Size: 5 * s}, api.OK},
		{[]int{s, 3 * s, s, s}, []int{0, 2}, 1, 5*s + 1, api.Extent{}, api.ErrFull},
		{[]int{s, 2 * s, s, 2 * s}, []int{2}, 1, 3*s - 1, api.Extent{From: 1, N: 3, Size: 3*s - 1}, api.OK},
		{[]int{s, 2 * s, s, 2 * s}, []int{2}, 3, 3 * s, api.Extent{From: 3, N: 3, Size: 3 * s}, api.OK},
		{[]int{s, 2 * s, s, 2 * s}, []int{2}, 3, s, api.Extent{From: 3, N: 1, Size: s}, api.OK},
		{[]int{s, 2 * s, s, 2 * s}, []int{2}, 1, s, api.Extent{From: 1, N: 1, Size: s}, api.OK},
		{[]int{s, 2 * s, s, 2 * s}, []int{2}, 0, 2 * s, api.Extent{}, api.ErrFull},
		{[]int{s, 2 * s, s, 2 * s}, nil, 0, 2 * s, api.Extent{}, api.ErrFull},
		{[]int{6 * s}, nil, 0, 6*s + 1, api.Extent{}, api.ErrFull},
		{[]int{6 * s}, nil, 0, 1, api.Extent{From: 0, N: 1, Size: 1}, api.OK},
		{[]int{1}, nil, 0, 6 * s, api.Extent{From: 0, N: 6, Size: 6 * s}, api.OK},
		{[]int{s, s, 2 * s}, nil, 1, 2 * s, api.Extent{From: 4, N: 2, Size: 2 * s}, api.OK},
	} {
		x := made(t, 6)
		var l []api.Extent
		for i, n := range c.puts {
			l = append(l, x.put(block(i, n)))
		}
		for _, i := range c.holes {
			x.free(l[i])
		}
		_, before := x.s.Calls()
		y, e := x.s.Set(l[c.i], block(9, c.size))
		if y != c.want || e != c.e {
			t.Error(c, y, e)
		}
		if _, after := x.s.Calls(); e != api.OK && after != before {
			t.Error("written behind an error", c)
		}
		x.p.set(l[c.i], block(9, c.size))
		x.same()
		if e == api.OK && y != l[c.i] {
			x.refused(l[c.i])
		}
	}
}

// TestSetFull: behind ErrFull everything is as it was, and the extent can be read, set and freed.
func TestSetFull(t *testing.T) {
	for _, holes := range []int{0, 0b1, 0b1000, 0b101001} {
		x := laid(t, 6, holes)
		for _, y := range x.p.extents() {
			for _, n := range []int{4*api.Sector + 1, 6*api.Sector + 1, 1 << 20} {
				if z, e := x.s.Set(y, block(n, n)); z != (api.Extent{}) || e != api.ErrFull {
					t.Fatal(holes, y, n, z, e)
				}
				x.same()
			}
			z := x.set(y, block(8, 64))
			x.same()
			x.free(z)
			x.same()
			x.put(block(7, 64))
			x.same()
		}
	}
}

// TestNotLive: an extent that differs from a live one, one that was freed, and one that Set replaced are refused, and nothing changes.
func TestNotLive(t *testing.T) {
	x := made(t, 9)
	a := x.put(block(1, 130))
	b := x.put(block(2, 64))
	c := x.put(nil)
	for _, y := range []api.Extent{a, b, c} {
		for _, z := range strangers(y) {
			if _, ok := x.p.live[z]; !ok {
				x.refused(z)
			}
		}
	}
	d := x.set(b, block(3, 63))
	x.refused(b)
	f := x.set(d, block(4, 129))
	x.refused(b)
	x.refused(d)
	x.free(a)
	x.refused(a)
	x.refused(b)
	x.free(c, f)
	for _, y := range []api.Extent{a, b, c, d, f, {}, {N: 1}} {
		x.refused(y)
	}
}

// TestLiveAgain: an extent of the same sectors and size as one that was freed is live, whoever put it there.
func TestLiveAgain(t *testing.T) {
	x := made(t, 3)
	a := x.put(block(1, 100))
	x.free(a)
	x.refused(a)
	if b := x.put(block(2, 100)); b != a {
		t.Error(a, b)
	}
	x.same()
	c := x.set(a, block(3, 101))
	x.refused(a)
	if d := x.set(c, block(4, 100)); d != a {
		t.Error(a, d)
	}
	x.same()
	x.refused(c)
}

func TestFree(t *testing.T) {
	dead := api.Extent{From: 0, N: 1, Size: 2}
	far := api.Extent{From: math.MaxInt, N: math.MaxInt, Size: math.MaxInt}
	for _, places := range [][]int{
		nil, {}, {0}, {1}, {3}, {0, 1}, {1, 0}, {3, 0}, {1, 2}, {0, 1, 2, 3}, {3, 2, 1, 0},
		{0, 0}, {0, 1, 0}, {1, 1, 2}, {0, 1, 2, 3, 3}, {3, 2, 2, 3},
		{4}, {4, 0}, {0, 4}, {0, 4, 1}, {0, 1, 2, 3, 4}, {5}, {5, 0}, {0, 5}, {4, 4}, {6}, {6, 3}, {3, 6},
	} {
		x := made(t, 8)
		all := []api.Extent{x.put([]byte{1}), x.put(block(2, 65)), x.put(nil), x.put(block(3, 190)), dead, far, {}}
		var l []api.Extent
		for _, i := range places {
			l = append(l, all[i])
		}
		x.free(l...)
		x.same()
		x.free(l...)
		x.same()
		x.put(block(4, 64))
		x.same()
	}
}

// TestFreeZeros: the sectors that Free and Set leave are filled with zeros; so are those behind the bytes in the last one.
func TestFreeZeros(t *testing.T) {
	s, _ := extent.New(4)
	full := bytes.Repeat([]byte{255}, 4*api.Sector)
	x, e := s.Put(full)
	if e != api.OK || s.Disk.Used() != 4 {
		t.Fatal(x, e, s.Disk.Used())
	}
	x, e = s.Set(x, full[:2*api.Sector])
	if e != api.OK || s.Disk.Used() != 2 {
		t.Fatal(x, e, s.Disk.Used())
	}
	x, e = s.Set(x, full[:api.Sector+1])
	if b, _ := s.Read(1); e != api.OK || b[0] != 255 || !bytes.Equal(b[1:], make([]byte, api.Sector-1)) {
		t.Fatal(x, e, b)
	}
	x, e = s.Set(x, nil)
	if e != api.OK || s.Disk.Used() != 0 || s.Used() != 1 {
		t.Fatal(x, e, s.Disk.Used(), s.Used())
	}
	x, e = s.Set(x, full)
	if e != api.OK || s.Free(x) != api.OK || s.Disk.Used() != 0 || s.Used() != 0 {
		t.Fatal(x, e, s.Disk.Used(), s.Used())
	}
}

// TestUsedCountsZeros: an allocated sector counts whatever its bytes are.
func TestUsedCountsZeros(t *testing.T) {
	x := made(t, 5)
	for _, n := range []int{0, 1, 2 * api.Sector} {
		x.put(make([]byte, n))
		x.same()
	}
	if x.s.Used() != 4 || x.s.Disk.Used() != 0 {
		t.Error(x.s.Used(), x.s.Disk.Used())
	}
}

// TestPromoted: the calls of the disk are calls of the space.
func TestPromoted(t *testing.T) {
	s, _ := extent.New(2)
	var d interface {
		Len() int
		Read(i int) ([]byte, api.Errno)
		Write(i int, b []byte) api.Errno
		Clear(l ...int) api.Errno
		Calls() (int, int)
	} = s
	x, _ := s.Put([]byte("ab"))
	if b, e := d.Read(0); e != api.OK || string(b[:3]) != "ab\x00" || d.Len() != 2 {
		t.Error(b, e)
	}
	if e := d.Write(0, []byte("cd")); e != api.OK {
		t.Error(e)
	}
	if b, e := s.Get(x); e != api.OK || string(b) != "cd" {
		t.Error(b, e)
	}
	if _, w := d.Calls(); w != 2 || d.Clear(0) != api.OK {
		t.Error(w)
	}
	if b, e := s.Get(x); e != api.OK || string(b) != "\x00\x00" {
		t.Error(b, e)
	}
	if _, e := d.Read(2); e != api.ErrNone {
		t.Error(e)
	}
}

// TestPutOverOldBytes: bytes that were written to a free sector past the space's own calls do not remain in an extent.
func TestPutOverOldBytes(t *testing.T) {
	x := made(t, 2)
	for _, n := range []int{0, 1, api.Sector + 1} {
		x.s.Write(0, block(1, api.Sector))
		x.s.Write(1, block(2, api.Sector))
		y := x.put(block(3, n))
		x.get(y)
		for i := range y.N {
			if b, _ := x.s.Read(i); !bytes.Equal(b, x.p.sectors[i][:]) {
				t.Error(n, i, b)
			}
		}
		x.free(y)
	}
}

// TestMemory: what is handed in or out, and is changed then, changes nothing in the space; what is handed in is not changed.
func TestMemory(t *testing.T) {
	for _, n := range []int{1, 63, api.Sector, api.Sector + 1, 3 * api.Sector} {
		x := made(t, 8)
		in := append(block(1, n), 77, 78, 79)
		kept := bytes.Clone(in)
		y := x.put(in[:n])
		x.wiped(in, kept)
		in = bytes.Clone(kept)
		y = x.set(y, in[:n])
		x.wiped(in, kept)
		in = bytes.Clone(kept)
		y = x.set(y, in[:n+1])
		x.wiped(in, kept)
		y = x.set(y, kept[:n])

		first, second := x.get(y), x.get(y)
		x.wiped(first[:n:n], kept[:n])
		if !bytes.Equal(second, kept[:n]) {
			t.Fatal("two answers share memory", n)
		}
		wipe(second[:cap(second)])
		x.same()
		_ = append(x.get(y), 1, 2, 3)
		x.same()
		x.free(y)
		wipe(first[:cap(first)])
		x.same()
	}
}

// wiped fails the test unless b is what it was, and the space remains what it is when b is changed.
func (x pair) wiped(b, was []byte) {
	x.Helper()
	if !bytes.Equal(b, was) {
		x.Fatal("changed", b, was)
	}
	wipe(b)
	x.same()
}

func wipe(b []byte) {
	for i := range b {
		b[i] = 0xee
	}
}

// TestMemoryOfFree: the list that Free is given is neither changed nor kept, with and without an error.
func TestMemoryOfFree(t *testing.T) {
	x := made(t, 4)
	a, b, c := x.put([]byte{1}), x.put([]byte{2}), x.put([]byte{3})
	for _, l := range [][]api.Extent{{c, a, a, b}, {b, a, {}}, {c, a}} {
		was := slices.Clone(l)
		x.free(l...)
		if !slices.Equal(l, was) {
			t.Error(l, was)
		}
		for i := range l {
			l[i] = b
		}
		x.same()
	}
	x.refused(a)
	x.refused(c)
	x.free(b)
	x.same()
}

// TestSetFromGet: the bytes that Get returned may be put back, in place and elsewhere.
func TestSetFromGet(t *testing.T) {
	x := made(t, 6)
	y := x.put(block(1, 100))
	y = x.set(y, x.get(y))
	x.same()
	y = x.set(y, x.get(y)[:10])
	x.same()
	y = x.set(y, append(x.get(y), block(2, 200)...))
	x.same()
	x.put(x.get(y)[150:])
	x.same()
}

// TestIndependent: two spaces have nothing in common, not even their extents.
func TestIndependent(t *testing.T) {
	a, b := made(t, 4), made(t, 4)
	y := a.put(block(1, 100))
	b.refused(y)
	b.put(block(2, 100))
	a.same()
	b.same()
	a.set(y, nil)
	b.same()
	b.free(y)
	a.same()
	b.same()
}

// TestUndone: what is put and freed again, in any order, leaves the space as it was.
func TestUndone(t *testing.T) {
	sizes := []int{0, 65, 64, 200}
	for order := range 24 {
		x := laid(t, 14, 0b11101101111010)
		want := x.p.extents()
		var l []api.Extent
		for i, n := range sizes {
			if y := x.put(block(i, n)); y.N > 0 {
				l = append(l, y)
			}
		}
		x.same()
		for k := order; len(l) > 0; k /= 4 {
			i := k % len(l)
			x.free(l[i])
			l = slices.Delete(l, i, i+1)
			x.same()
		}
		if !slices.Equal(x.p.extents(), want) {
			t.Error(order, x.p.extents())
		}
	}
}

// TestGreatest: the greatest space, as one extent, and as one for each sector.
func TestGreatest(t *testing.T) {
	s, e := extent.New(api.MaxSectors)
	if e != api.OK || s.Len() != api.MaxSectors {
		t.Fatal(e)
	}
	b := block(5, api.MaxSectors*api.Sector)
	if x, e := s.Put(append(b, 1)); x != (api.Extent{}) || e != api.ErrFull || s.Used() != 0 {
		t.Fatal(x, e, s.Used())
	}
	x, e := s.Put(b)
	if e != api.OK || x != (api.Extent{From: 0, N: api.MaxSectors, Size: len(b)}) || s.Used() != api.MaxSectors {
		t.Fatal(x, e, s.Used())
	}
	if got, e := s.Get(x); e != api.OK || !bytes.Equal(got, b) {
		t.Fatal(e)
	}
	if e := s.Free(x); e != api.OK || s.Used() != 0 || s.Disk.Used() != 0 {
		t.Fatal(e, s.Used(), s.Disk.Used())
	}
	var l []api.Extent
	for i := range api.MaxSectors {
		x, e := s.Put(block(i, 1+i%api.Sector))
		if e != api.OK || x != (api.Extent{From: i, N: 1, Size: 1 + i%api.Sector}) {
			t.Fatal(i, x, e)
		}
		l = append(l, x)
	}
	if x, e := s.Put(nil); x != (api.Extent{}) || e != api.ErrFull {
		t.Fatal(x, e)
	}
	for i, x := range l {
		if got, e := s.Get(x); e != api.OK || !bytes.Equal(got, block(i, 1+i%api.Sector)) {
			t.Fatal(x, got, e)
		}
	}
	if e := s.Free(append(l, l[0])...); e != api.ErrNone || s.Used() != api.MaxSectors {
		t.Fatal(e, s.Used())
	}
	if e := s.Free(l...); e != api.OK || s.Used() != 0 || s.Disk.Used() != 0 {
		t.Fatal(e, s.Used(), s.Disk.Used())
	}
}

// TestLong: long work by chance on spaces of several sizes, held against the model.
func TestLong(t *testing.T) {
	for _, n := range []int{1, 2, 5, 17, 40} {
		t.Run(fmt.Sprint(n), func(t *testing.T) {
			r := rand.New(rand.NewSource(1))
			x := made(t, n)
			var old []api.Extent
			for range 4000 {
				old = x.step(r, old)
				x.same()
			}
		})
	}
}

// step makes one call, on a live extent, or on one that was live once, and returns the extents that were ever seen, but for the oldest.
func (x pair) step(r *rand.Rand, old []api.Extent) []api.Extent {
	x.Helper()
	pick := func() api.Extent {
		if l := x.p.extents(); len(l) > 0 && r.Intn(6) > 0 {
			return l[r.Intn(len(l))]
		}
		if len(old) == 0 {
			return api.Extent{N: 1}
		}
		return old[r.Intn(len(old))]
	}
	b := block(r.Intn(1000), r.Intn(6*api.Sector))
	switch r.Intn(8) {
	case 0, 1, 2:
		old = append(old, x.put(b))
	case 3, 4:
		old = append(old, x.set(pick(), b))
	case 5:
		x.get(pick())
	case 6:
		x.free(pick())
	case 7:
		x.free(pick(), pick(), pick())
	}
	return old[max(0, len(old)-50):]
}
