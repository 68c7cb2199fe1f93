package disk_test

import (
	"bytes"
	"fmt"
	"math"
	"math/rand"
	"slices"
	"testing"

	"webster/api"
	"webster/disk"
)

// model is a disk in the plainest form, against which the package is held.
type model struct {
	sectors       [][api.Sector]byte
	reads, writes int
}

func (p *model) has(i int) bool { return i >= 0 && i < len(p.sectors) }

func (p *model) write(i int, b []byte) api.Errno {
	if !p.has(i) {
		return api.ErrNone
	}
	if len(b) > api.Sector {
		return api.ErrArg
	}
	p.sectors[i] = [api.Sector]byte{}
	for j, c := range b {
		p.sectors[i][j] = c
	}
	p.writes++
	return api.OK
}

func (p *model) clear(l ...int) api.Errno {
	for _, i := range l {
		if !p.has(i) {
			return api.ErrNone
		}
	}
	for _, i := range l {
		p.sectors[i] = [api.Sector]byte{}
	}
	return api.OK
}

func (p *model) used() int {
	c := 0
	for _, s := range p.sectors {
		if s != [api.Sector]byte{} {
			c++
		}
	}
	return c
}

// pair is a disk beside the model that tells what it must answer.
type pair struct {
	*testing.T
	d *disk.Disk
	p *model
}

func made(t *testing.T, n int) pair {
	t.Helper()
	d, e := disk.New(n)
	if d == nil || e != api.OK {
		t.Fatal("New", n, d, e)
	}
	return pair{t, d, &model{sectors: make([][api.Sector]byte, n)}}
}

// filled returns a disk none of whose bytes is 0.
func filled(t *testing.T, n int) pair {
	t.Helper()
	x := made(t, n)
	for i := range n {
		x.write(i, block(i+1, api.Sector))
	}
	return x
}

// block returns n bytes that hang on seed, none of which is 0.
func block(seed, n int) []byte {
	b := make([]byte, n)
	for i := range b {
		b[i] = byte(1 + (seed*31+i)%255)
	}
	return b
}

func (x pair) read(i int) []byte {
	x.Helper()
	b, e := x.d.Read(i)
	if !x.p.has(i) {
		if e != api.ErrNone || len(b) != 0 {
			x.Fatal("Read", i, b, e)
		}
		return nil
	}
	x.p.reads++
	if e != api.OK || !bytes.Equal(b, x.p.sectors[i][:]) {
		x.Fatal("Read", i, b, e, "want", x.p.sectors[i])
	}
	return b
}

func (x pair) write(i int, b []byte) {
	x.Helper()
	if e, want := x.d.Write(i, b), x.p.write(i, b); e != want {
		x.Fatal("Write", i, len(b), e, "want", want)
	}
}

func (x pair) clear(l ...int) {
	x.Helper()
	if e, want := x.d.Clear(l...), x.p.clear(l...); e != want {
		x.Fatal("Clear", l, e, "want", want)
	}
}

// same fails the test unless the disk is what the model is, and counts what it counts.
func (x pair) same() {
	x.Helper()
	if r, w := x.d.Calls(); r != x.p.reads || w != x.p.writes {
		x.Fatal("Calls", r, w, "want", x.p.reads, x.p.writes)
	}
	if x.d.Len() != len(x.p.sectors) || x.d.Used() != x.p.used() {
		x.Fatal(x.d.Len(), len(x.p.sectors), "Used", x.d.Used(), "want", x.p.used())
	}
	for i := -2; i < len(x.p.sectors)+2; i++ {
		x.read(i)
	}
	if r, w := x.d.Calls(); r != x.p.reads || w != x.p.writes {
		x.Fatal("Calls", r, w, "want", x.p.reads, x.p.writes)
	}
}

// outside are numbers of sectors that no disk of n sectors has: some of them times Sector, or as another kind of integer, would be inside.
func outside(n int) []int {
	return []int{
		-1, -2, -n, -n - 1, -api.Sector, n, n + 1, n + api.Sector, n * api.Sector, api.MaxSectors, api.MaxSectors + 1,
		1 << 16, 1 << 32, 1<<32 + 1, 1 << 58, 1<<58 + 1, 1 << 62, -1 << 32, -1 << 58, -1<<58 + 1, -1 << 62,
		math.MaxInt, math.MaxInt - 1, math.MaxInt/api.Sector + 1, math.MaxInt / api.Sector,
		math.MinInt, math.MinInt + 1, math.MinInt / api.Sector, math.MinInt/api.Sector - 1,
	}
}

func TestNew(t *testing.T) {
	for _, n := range []int{0, 1, 2, 3, api.Sector, 1000, api.MaxSectors - 1, api.MaxSectors} {
		made(t, n).same()
	}
	for _, n := range []int{
		-1, -2, -api.Sector, -api.MaxSectors, api.MaxSectors + 1, api.MaxSectors + 2, api.MaxSectors * api.Sector,
		1 << 32, 1 << 58, 1<<58 + 1, -1 << 58, math.MaxInt, math.MaxInt / api.Sector, math.MinInt, math.MinInt + 1,
	} {
		if d, e := disk.New(n); d != nil || e != api.ErrArg {
			t.Error("New", n, d, e)
		}
	}
}

func TestExample(t *testing.T) {
	d, e := disk.New(2)
	if e != api.OK || d.Len() != 2 {
		t.Fatal(e, d.Len())
	}
	if e := d.Write(1, []byte("a")); e != api.OK {
		t.Fatal(e)
	}
	want := append([]byte{0x61}, make([]byte, 63)...)
	if b, e := d.Read(1); e != api.OK || !bytes.Equal(b, want) {
		t.Error(b, e)
	}
	if b, e := d.Read(0); e != api.OK || !bytes.Equal(b, make([]byte, 64)) {
		t.Error(b, e)
	}
	if d.Used() != 1 {
		t.Error(d.Used())
	}
	if r, w := d.Calls(); r != 2 || w != 1 {
		t.Error(r, w)
	}
}

// TestNil: the calls on a nil disk, with good arguments and with bad ones.
func TestNil(t *testing.T) {
	var d *disk.Disk
	for _, i := range append(outside(0), 0, 1, 2) {
		if b, e := d.Read(i); len(b) != 0 || e != api.ErrNil {
			t.Error("Read", i, b, e)
		}
		for _, n := range []int{0, 1, api.Sector, api.Sector + 1} {
			if e := d.Write(i, make([]byte, n)); e != api.ErrNil {
				t.Error("Write", i, n, e)
			}
		}
		if d.Write(i, nil) != api.ErrNil || d.Clear(i) != api.ErrNil || d.Clear(0, i) != api.ErrNil {
			t.Error(i, d.Write(i, nil), d.Clear(i), d.Clear(0, i))
		}
	}
	if d.Clear() != api.ErrNil || d.Clear([]int{}...) != api.ErrNil {
		t.Error(d.Clear())
	}
	r, w := d.Calls()
	if d.Len() != 0 || d.Used() != 0 || r != 0 || w != 0 {
		t.Error(d.Len(), d.Used(), r, w)
	}
}

// TestEmpty: a disk without sectors has none to read, to write, or to clear; clearing none of them is well.
func TestEmpty(t *testing.T) {
	x := made(t, 0)
	for _, i := range append(outside(0), 0) {
		x.read(i)
		x.write(i, nil)
		x.write(i, []byte{1})
		x.write(i, make([]byte, api.Sector+1))
		x.clear(i)
		x.same()
	}
	x.clear()
	x.same()
}

// TestNoSuchSector: sectors behind the ends, and near those of int, are refused ahead of what is wrong with the bytes, and nothing changes.
func TestNoSuchSector(t *testing.T) {
	for _, n := range []int{1, 2, 5} {
		x := filled(t, n)
		for _, i := range outside(n) {
			if b, e := x.d.Read(i); len(b) != 0 || e != api.ErrNone {
				t.Error("Read", n, i, b, e)
			}
			for _, size := range []int{0, 1, api.Sector, api.Sector + 1, 3 * api.Sector} {
				if e := x.d.Write(i, block(9, size)); e != api.ErrNone {
					t.Error("Write", n, i, size, e)
				}
			}
			for _, l := range [][]int{{i}, {i, 0}, {0, i}, {n - 1, i, 0}, {i, i}} {
				if e := x.d.Clear(l...); e != api.ErrNone {
					t.Error("Clear", n, l, e)
				}
			}
			x.same()
		}
	}
}

// TestWriteLengths: bytes of each length that fits, over a sector that was full, and some of those that do not fit.
func TestWriteLengths(t *testing.T) {
	for at := range 3 {
		x := filled(t, 3)
		for n := range api.Sector + 1 {
			x.write(at, block(7, api.Sector))
			x.write(at, block(n, n))
			x.same()
			x.write(at, make([]byte, n))
			x.same()
		}
		x.write(at, block(7, api.Sector))
		for _, n := range []int{api.Sector + 1, api.Sector + 2, 2 * api.Sector, 3 * api.Sector, 1 << 16} {
			for _, b := range [][]byte{block(n, n), make([]byte, n)} {
				if e := x.d.Write(at, b); e != api.ErrArg {
					t.Error("Write", at, n, e)
				}
				x.same()
			}
		}
		x.write(at, nil)
		x.same()
		x.write(at, []byte{})
		x.same()
	}
}

// TestUsed: one byte that is not 0, wherever it stands, makes a sector used; zeros that are written do not.
func TestUsed(t *testing.T) {
	for at := range 3 {
		x := made(t, 3)
		for j := range api.Sector {
			for _, c := range []byte{1, 0x80, 0xff} {
				b := make([]byte, api.Sector)
				b[j] = c
				x.write(at, b)
				if x.d.Used() != 1 {
					t.Fatal(at, j, c, x.d.Used())
				}
			}
		}
		for _, n := range []int{0, 1, api.Sector} {
			x.write(at, []byte{1})
			x.write(at, make([]byte, n))
			if x.d.Used() != 0 {
				t.Fatal(at, n, x.d.Used())
			}
		}
		x.write(at, []byte{1})
		x.write(at, []byte{1})
		if x.d.Used() != 1 {
			t.Fatal(at, x.d.Used())
		}
	}
}

func TestClear(t *testing.T) {
	for _, l := range [][]int{
		nil, {}, {0}, {1}, {4}, {0, 4}, {4, 0}, {1, 2, 3}, {3, 1, 2}, {0, 1, 2, 3, 4},
		{2, 2}, {2, 3, 2}, {0, 0, 0, 4, 4}, {4, 3, 2, 1, 0, 1, 2, 3, 4},
		{5}, {-1}, {0, 5}, {5, 0}, {0, 1, 2, 3, 4, 5}, {0, -1}, {-1, 0}, {2, 2, 5}, {2, 5, 2}, {5, 5}, {-1, 5},
		{0, math.MaxInt}, {math.MinInt, 4}, {1, 1 << 58, 2}, {1, -1 << 58, 2},
	} {
		x := filled(t, 5)
		x.clear(l...)
		x.same()
		x.clear(l...)
		x.same()
		for i := range 5 {
			x.write(i, block(i, i))
			x.same()
		}
	}
}

// TestClearUndoesWrite: what is written to zeros and cleared again leaves the disk as it was.
func TestClearUndoesWrite(t *testing.T) {
	for at := range 3 {
		for _, n := range []int{0, 1, 33, api.Sector} {
			x := filled(t, 3)
			x.clear(at)
			before := slices.Clone(x.p.sectors)
			x.write(at, block(n, n))
			x.clear(at)
			x.same()
			if !slices.Equal(x.p.sectors, before) || x.d.Used() != 2 {
				t.Error(at, n, x.d.Used())
			}
		}
	}
}

// TestMemory: what was handed in or out, and is changed then, changes nothing on the disk, nor what was handed out before.
func TestMemory(t *testing.T) {
	for _, n := range []int{0, 1, 40, api.Sector} {
		x := filled(t, 3)
		b := block(n, 2*api.Sector)
		kept := slices.Clone(b)
		x.write(1, b[:n])
		if !bytes.Equal(b, kept) {
			t.Fatal("Write changed its argument", n)
		}
		x.same()
		overwrite(b)
		x.same()

		first, second := x.read(1), x.read(1)
		next := x.read(2)
		wantSecond, wantNext := slices.Clone(second), slices.Clone(next)
		overwrite(first)
		_ = append(first, 1, 2, 3)
		x.same()
		if !bytes.Equal(second, wantSecond) || !bytes.Equal(next, wantNext) {
			t.Fatal("results share memory", n)
		}
		x.write(1, block(n+1, api.Sector))
		x.clear(2)
		if !bytes.Equal(second, wantSecond) || !bytes.Equal(next, wantNext) {
			t.Fatal("a result changed with the disk", n)
		}
	}
}

// overwrite changes each byte of b, those of its spare capacity too.
func overwrite(b []byte) {
	b = b[:cap(b)]
	for i := range b {
		b[i] ^= 0xff
	}
}

// TestClearKeepsItsList: the list of sectors is neither changed nor kept.
func TestClearKeepsItsList(t *testing.T) {
	x := filled(t, 5)
	l := []int{3, 1, 3, 0, 2}
	x.clear(l[:3]...)
	if !slices.Equal(l, []int{3, 1, 3, 0, 2}) {
		t.Fatal(l)
	}
	for i := range l {
		l[i] = 4
	}
	x.same()
	l = []int{4, 9, 2}
	x.clear(l...)
	if !slices.Equal(l, []int{4, 9, 2}) {
		t.Fatal(l)
	}
	x.same()
}

// TestCopyOfSector: what was read from one sector is written to another, and stays apart from both.
func TestCopyOfSector(t *testing.T) {
	x := filled(t, 3)
	b := x.read(0)
	x.write(2, b)
	x.same()
	x.write(0, b)
	x.same()
	overwrite(b)
	x.same()
}

// TestCalls: just those calls count that returned OK, and only those of Read and Write.
func TestCalls(t *testing.T) {
	x := made(t, 2)
	want := func(reads, writes int) {
		t.Helper()
		if r, w := x.d.Calls(); r != reads || w != writes {
			t.Fatal(r, w, "want", reads, writes)
		}
	}
	want(0, 0)
	x.d.Read(-1)
	x.d.Read(2)
	x.d.Read(math.MaxInt)
	want(0, 0)
	x.d.Write(-1, nil)
	x.d.Write(2, []byte{1})
	x.d.Write(0, make([]byte, api.Sector+1))
	x.d.Write(2, make([]byte, api.Sector+1))
	want(0, 0)
	x.d.Clear()
	x.d.Clear(0, 1)
	x.d.Clear(2)
	x.d.Len()
	x.d.Used()
	want(0, 0)
	x.d.Read(0)
	want(1, 0)
	x.d.Read(0)
	x.d.Read(1)
	want(3, 0)
	x.d.Write(0, nil)
	want(3, 1)
	x.d.Write(1, []byte{1})
	x.d.Write(1, make([]byte, api.Sector))
	want(3, 3)
	x.d.Write(1, make([]byte, api.Sector+1))
	x.d.Read(2)
	x.d.Clear(1)
	want(3, 3)
}

// TestGreatest: each sector of the greatest disk holds its own number, till all of them are cleared at once.
func TestGreatest(t *testing.T) {
	x := made(t, api.MaxSectors)
	var l []int
	for i := range api.MaxSectors {
		x.write(i, fmt.Appendf(nil, "sector %d", i))
		l = append(l, i)
	}
	x.same()
	x.clear(append(l, api.MaxSectors)...)
	x.same()
	x.clear(l[:api.MaxSectors-1]...)
	x.same()
	x.clear(l...)
	x.same()
}

// TestLongWork: many calls one after another, held against the model after each one.
func TestLongWork(t *testing.T) {
	r := rand.New(rand.NewSource(1))
	for _, n := range []int{0, 1, 2, 3, 7, 20} {
		t.Run(fmt.Sprint(n), func(t *testing.T) {
			x := made(t, n)
			for range 1000 {
				switch i := r.Intn(n+2) - 1; r.Intn(3) {
				case 0:
					x.read(i)
				case 1:
					b := make([]byte, r.Intn(api.Sector+4))
					r.Read(b)
					x.write(i, b)
				default:
					l := make([]int, r.Intn(4))
					for j := range l {
						l[j] = r.Intn(n+1) - r.Intn(20)/19
					}
					x.clear(l...)
				}
				x.same()
			}
		})
	}
}

// TestIndependent: disks share nothing with each other.
func TestIndependent(t *testing.T) {
	a, b := filled(t, 3), made(t, 3)
	a.same()
	b.same()
	b.write(1, []byte("b"))
	a.clear(0, 1)
	a.same()
	b.same()
	b.write(2, a.read(2))
	a.clear(2)
	a.same()
	b.same()
}
