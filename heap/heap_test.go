package heap_test

import (
	"fmt"
	"math"
	"math/rand"
	"slices"
	"testing"

	"webster/api"
	"webster/heap"
)

// part is a block: its address, and its words.
type part struct {
	at int
	w  []int
}

// model is a heap in the plainest form, against which the package is held.
type model struct {
	n      int
	blocks map[int]part
}

// taken tells of each address whether a block has it.
func (p *model) taken() []bool {
	l := make([]bool, p.n)
	for _, b := range p.blocks {
		for i := range b.w {
			if l[b.at+i] {
				panic("two blocks have a word in common")
			}
			l[b.at+i] = true
		}
	}
	return l
}

// first returns the smallest address from which on n words are free; -1 if there is none.
func (p *model) first(n int) int {
	l := p.taken()
	for at := 0; at <= p.n && n <= p.n-at; at++ {
		if !slices.Contains(l[at:at+n], true) {
			return at
		}
	}
	return -1
}

func (p *model) alloc(n int) (int, api.Errno) {
	if n < 0 {
		return 0, api.ErrArg
	}
	at := p.first(n)
	if at < 0 {
		return 0, api.ErrFull
	}
	k := 0
	for p.has(k) {
		k++
	}
	p.blocks[k] = part{at, make([]int, n)}
	return k, api.OK
}

func (p *model) has(k int) bool {
	_, ok := p.blocks[k]
	return ok
}

func (p *model) free(k int) api.Errno {
	if !p.has(k) {
		return api.ErrNone
	}
	delete(p.blocks, k)
	return api.OK
}

func (p *model) read(k, i int) (int, api.Errno) {
	if b, ok := p.blocks[k]; ok && i >= 0 && i < len(b.w) {
		return b.w[i], api.OK
	}
	return 0, api.ErrNone
}

func (p *model) write(k, i int, w []int) api.Errno {
	b, ok := p.blocks[k]
	if !ok || i < 0 || i > len(b.w) || len(w) > len(b.w)-i {
		return api.ErrNone
	}
	for _, v := range w {
		if v < 0 || v > 65535 {
			return api.ErrArg
		}
	}
	for j, v := range w {
		b.w[i+j] = v
	}
	return api.OK
}

func (p *model) compact() int {
	moved, end := 0, 0
	for at := range p.n {
		for k, b := range p.blocks {
			if b.at != at || len(b.w) == 0 {
				continue
			}
			if at != end {
				p.blocks[k] = part{end, b.w}
				moved++
			}
			end += len(b.w)
			break
		}
	}
	return moved
}

func (p *model) room() (int, int) {
	all, longest := 0, 0
	for _, is := range p.taken() {
		if !is {
			all++
		}
	}
	for n := range p.n + 1 {
		if p.first(n) >= 0 {
			longest = n
		}
	}
	return all, longest
}

func (p *model) numbers() []int {
	var l []int
	for k := range p.blocks {
		l = append(l, k)
	}
	slices.Sort(l)
	return l
}

// pair is a heap beside the model that tells what it must answer.
type pair struct {
	*testing.T
	h *heap.Heap
	p *model
}

func made(t *testing.T, n int) pair {
	t.Helper()
	h, e := heap.New(n)
	if h == nil || e != api.OK {
		t.Fatal("New", n, h, e)
	}
	return pair{t, h, &model{n, map[int]part{}}}
}

func (x pair) alloc(n int) int {
	x.Helper()
	k, e := x.h.Alloc(n)
	if want, f := x.p.alloc(n); k != want || e != f {
		x.Fatal("Alloc", n, k, e, "want", want, f)
	}
	return k
}

func (x pair) free(k int) {
	x.Helper()
	if e, want := x.h.Free(k), x.p.free(k); e != want {
		x.Fatal("Free", k, e, "want", want)
	}
}

func (x pair) read(k, i int) {
	x.Helper()
	v, e := x.h.Read(k, i)
	if want, f := x.p.read(k, i); v != want || e != f {
		x.Fatal("Read", k, i, v, e, "want", want, f)
	}
}

func (x pair) write(k, i int, w ...int) api.Errno {
	x.Helper()
	e := x.h.Write(k, i, w...)
	if want := x.p.write(k, i, w); e != want {
		x.Fatal("Write", k, i, w, e, "want", want)
	}
	return e
}

func (x pair) compact() int {
	x.Helper()
	n := x.h.Compact()
	if want := x.p.compact(); n != want {
		x.Fatal("Compact", n, "want", want)
	}
	return n
}

// same fails the test unless the heap is what the model is, word by word.
func (x pair) same() {
	x.Helper()
	l := x.p.numbers()
	if got := x.h.Blocks(); !slices.Equal(got, l) {
		x.Fatal("Blocks", got, "want", l)
	}
	a, b := x.h.Room()
	if c, d := x.p.room(); a != c || b != d {
		x.Fatal("Room", a, b, "want", c, d)
	}
	for _, k := range append(l, -1, len(l), len(l)+1) {
		b, ok := x.p.blocks[k]
		at, size := b.at, len(b.w)
		if !ok {
			at, size = -1, -1
		}
		if x.h.At(k) != at || x.h.Size(k) != size {
			x.Fatal("block", k, x.h.At(k), x.h.Size(k), "want", at, size)
		}
		for i := -1; i <= len(b.w); i++ {
			x.read(k, i)
		}
	}
}

// fill writes words into all blocks that tell the blocks and their words from one another.
func (x pair) fill() {
	x.Helper()
	for k, b := range x.p.blocks {
		for i := range b.w {
			if x.write(k, i, 65535-(k*1009+i*31)%65536) != api.OK {
				x.Fatal("Write", k, i)
			}
		}
	}
}

// laid returns a heap of n words, that are all those of blocks of these sizes, one behind the other, where the blocks have these numbers.
func laid(t *testing.T, n int, sizes []int, numbers []int) pair {
	t.Helper()
	x := made(t, n)
	for range sizes {
		x.alloc(0)
	}
	for i, size := range sizes {
		x.free(numbers[i])
		if k := x.alloc(size); k != numbers[i] {
			t.Fatal(k, numbers)
		}
	}
	x.fill()
	return x
}

// sums are all lists of numbers above 0 whose sum is n.
func sums(n int) [][]int {
	if n == 0 {
		return [][]int{nil}
	}
	var l [][]int
	for first := 1; first <= n; first++ {
		for _, rest := range sums(n - first) {
			l = append(l, append([]int{first}, rest...))
		}
	}
	return l
}

// orders are some orders of the numbers from 0 to n-1.
func orders(n int) [][]int {
	up := make([]int, n)
	for i := range up {
		up[i] = i
	}
	down := slices.Clone(up)
	slices.Reverse(down)
	turned := append(slices.Clone(up[n/2:]), up[:n/2]...)
	return [][]int{up, down, turned}
}

// states calls f for each state of a heap of n words: each way to lay blocks and gaps of free words side by side.
func states(t *testing.T, n int, f func(x pair)) {
	t.Helper()
	for _, sizes := range sums(n) {
		for gone := range 1 << len(sizes) {
			for _, numbers := range orders(len(sizes)) {
				x := laid(t, n, sizes, numbers)
				for i, k := range numbers {
					if gone>>i&1 == 1 {
						x.free(k)
					}
				}
				f(x)
			}
		}
	}
}

// strangers are numbers that no block of these tests has; some would be one in another kind of integer.
func strangers() []int {
	return []int{
		-1, -2, -4, 1 << 8, 1 << 15, 1 << 16, 1<<16 + 1, 1 << 31, 1 << 32, 1<<32 + 1, 1 << 62, 1<<63 - 4, -1 << 32, 1 - 1<<32,
		math.MaxInt, math.MaxInt - 1, math.MinInt, math.MinInt + 1,
	}
}

func TestNew(t *testing.T) {
	for _, n := range []int{0, 1, 2, 12, 255, 256} {
		x := made(t, n)
		x.same()
		if x.alloc(n+1) != 0 || x.alloc(n) != 0 {
			t.Error(n)
		}
		x.same()
	}
	for _, n := range []int{1000, api.MaxHeap - 1, api.MaxHeap} {
		h, e := heap.New(n)
		if h == nil || e != api.OK {
			t.Fatal(n, e)
		}
		if a, b := h.Room(); a != n || b != n || len(h.Blocks()) != 0 {
			t.Error(n, a, b, h.Blocks())
		}
		if _, e := h.Alloc(n + 1); e != api.ErrFull {
			t.Error(n, e)
		}
		if k, e := h.Alloc(n); k != 0 || e != api.OK || h.Size(0) != n || h.At(0) != 0 {
			t.Error(n, k, e)
		}
		if h.Write(0, n-1, 65535) != api.OK || h.Write(0, n, 1) != api.ErrNone {
			t.Error(n)
		}
		if a, b := h.Room(); a != 0 || b != 0 {
			t.Error(n, a, b)
		}
	}
	for _, n := range []int{-1, -2, -api.MaxHeap, api.MaxHeap + 1, 1 << 16, 1 << 32, 1<<32 + 1, 1 << 62, math.MaxInt, math.MinInt} {
		if h, e := heap.New(n); h != nil || e != api.ErrArg {
			t.Error("New", n, h, e)
		}
	}
}

func TestExample(t *testing.T) {
	h, e := heap.New(10)
	if e != api.OK {
		t.Fatal(e)
	}
	a, e := h.Alloc(4)
	b, f := h.Alloc(4)
	if a != 0 || b != 1 || e != api.OK || f != api.OK {
		t.Fatal(a, b, e, f)
	}
	if e := h.Free(0); e != api.OK {
		t.Fatal(e)
	}
	if k, e := h.Alloc(5); k != 0 || e != api.ErrFull {
		t.Fatal(k, e)
	}
	if n := h.Compact(); n != 1 || h.At(1) != 0 {
		t.Fatal(n, h.At(1))
	}
	if k, e := h.Alloc(5); k != 0 || e != api.OK || h.At(0) != 4 || h.Size(0) != 5 {
		t.Error(k, e, h.At(0))
	}
}

// TestNil: the calls on a nil heap, with good arguments and with bad ones.
func TestNil(t *testing.T) {
	var h *heap.Heap
	if a, b := h.Room(); a != 0 || b != 0 || h.Compact() != 0 || len(h.Blocks()) != 0 {
		t.Error(a, b, h.Compact(), h.Blocks())
	}
	for _, a := range append(strangers(), 0, 1, 2) {
		if k, e := h.Alloc(a); k != 0 || e != api.ErrNil {
			t.Error("Alloc", a, k, e)
		}
		if e := h.Free(a); e != api.ErrNil || h.Size(a) != -1 || h.At(a) != -1 {
			t.Error(a, e, h.Size(a), h.At(a))
		}
		for _, b := range append(strangers(), 0, 1, 2) {
			if v, e := h.Read(a, b); v != 0 || e != api.ErrNil {
				t.Error("Read", a, b, v, e)
			}
			if h.Write(a, b) != api.ErrNil || h.Write(a, b, 1) != api.ErrNil || h.Write(a, b, -1, 65536) != api.ErrNil {
				t.Error("Write", a, b)
			}
		}
	}
}

// TestEmpty: a heap without words has room for blocks without words alone; so has one that New did not make.
func TestEmpty(t *testing.T) {
	for _, x := range []pair{made(t, 0), {t, new(heap.Heap), &model{0, map[int]part{}}}} {
		x.same()
		for k := range 3 {
			if x.alloc(0) != k || x.h.At(k) != 0 || x.h.Size(k) != 0 {
				t.Error(k, x.h.At(k), x.h.Size(k))
			}
			for _, n := range append(strangers(), 1, 2) {
				x.alloc(n)
			}
		}
		x.compact()
		x.same()
		x.write(1, 0)
		x.write(1, 1)
		x.write(1, 0, 1)
		x.free(1)
		x.free(1)
		x.same()
		x.write(1, 0)
		if x.alloc(0) != 1 {
			t.Error("the number 1 is free")
		}
		x.same()
	}
}

// TestEveryState: each small heap in each state, and what each call answers of it.
func TestEveryState(t *testing.T) {
	for n := range 6 {
		states(t, n, func(x pair) {
			x.same()
			for size := -2; size < n+3; size++ {
				before := len(x.p.blocks)
				k := x.alloc(size)
				x.same()
				if len(x.p.blocks) > before {
					x.free(k)
					x.same()
				}
			}
			a, _ := x.h.Room()
			x.compact()
			x.same()
			if b, c := x.h.Room(); b != a || c != a {
				x.Fatal("Room", b, c, "want", a)
			}
			if x.compact() != 0 {
				x.Fatal("Compact moved blocks twice")
			}
			x.alloc(a + 1)
			x.alloc(a)
			x.same()
		})
	}
}

// TestLowest: of several sequences of free words the first one that is long enough is taken, not the shortest one, nor a later one.
func TestLowest(t *testing.T) {
	x := laid(t, 20, []int{2, 1, 5, 1, 3, 1, 7}, []int{0, 1, 2, 3, 4, 5, 6})
	for _, k := range []int{0, 2, 4, 6} {
		x.free(k)
	}
	for _, c := range []struct{ n, at int }{{3, 3}, {2, 0}, {3, 9}, {2, 6}, {1, 13}, {6, 14}} {
		if k := x.alloc(c.n); x.h.At(k) != c.at {
			t.Error(c.n, x.h.At(k), c.at)
		}
		x.same()
	}
	x.alloc(1)
	x.alloc(0)
	x.same()
}

// TestZeros: a new block has zeros, whatever stood at its address, also if another block was moved away from there.
func TestZeros(t *testing.T) {
	x := laid(t, 9, []int{4, 5}, []int{0, 1})
	x.free(1)
	x.alloc(3)
	x.alloc(2)
	x.same()
	x.fill()
	x.free(0)
	x.alloc(4)
	x.same()
	x.fill()
	x.free(0)
	x.compact()
	x.alloc(4)
	x.same()
}

// TestNumbers: a new block has the smallest number that no other block has, with and without words.
func TestNumbers(t *testing.T) {
	for _, size := range []int{0, 1} {
		x := made(t, 8)
		for k := range 6 {
			if got := x.alloc(size); got != k {
				t.Error(k, got)
			}
		}
		for _, gone := range [][]int{{0}, {5}, {4, 5}, {5, 4}, {3, 1}, {1, 3}, {0, 5, 2}, {5, 4, 3, 2, 1, 0}, {0, 1, 2, 3, 4, 5}} {
			for _, k := range gone {
				x.free(k)
			}
			slices.Sort(gone)
			for _, k := range gone {
				if got := x.alloc(size); got != k {
					t.Error(gone, k, got)
				}
			}
			if got := x.alloc(size); got != 6 {
				t.Error(gone, got)
			}
			x.free(6)
			x.same()
		}
	}
	x := made(t, 3)
	x.alloc(2)
	x.alloc(2) // no room: it takes no number
	x.alloc(-1)
	if x.alloc(1) != 1 || x.alloc(0) != 2 || x.alloc(1) != 0 || x.alloc(0) != 3 {
		t.Error(x.h.Blocks())
	}
	x.same()
}

// TestAllocErrors: what is negative, and what is too much, near the ends of int too, changes nothing.
func TestAllocErrors(t *testing.T) {
	for _, n := range []int{0, 1, 7} {
		for _, full := range []bool{false, true} {
			x := made(t, n)
			if full {
				x.alloc(n)
				x.fill()
			}
			for _, size := range append(strangers(), n+1, n+2) {
				want := api.ErrFull
				if size < 0 {
					want = api.ErrArg
				}
				if k, e := x.h.Alloc(size); k != 0 || e != want {
					t.Error(n, size, k, e)
				}
			}
			x.same()
		}
	}
}

// TestFree: only what exists can be freed, and only once.
func TestFree(t *testing.T) {
	x := laid(t, 9, []int{4, 2, 3}, []int{2, 0, 1})
	x.alloc(0)
	for _, k := range append(strangers(), 4, 5) {
		if e := x.h.Free(k); e != api.ErrNone || x.h.Size(k) != -1 || x.h.At(k) != -1 {
			t.Error(k, e, x.h.Size(k), x.h.At(k))
		}
		x.same()
	}
	for _, k := range []int{0, 3, 2, 1} {
		x.free(k)
		x.same()
		if e := x.h.Free(k); e != api.ErrNone {
			t.Error(k, e)
		}
		if x.write(k, 0) != api.ErrNone || x.write(k, 0, 1) != api.ErrNone || x.write(k, 0, -1) != api.ErrNone {
			t.Error("Write", k)
		}
		x.same()
	}
	if a, b := x.h.Room(); a != 9 || b != 9 {
		t.Error(a, b)
	}
}

// TestUndone: what is allocated and freed again leaves the heap as it was.
func TestUndone(t *testing.T) {
	for order := range 24 {
		x := laid(t, 20, []int{2, 3, 1, 6, 3, 5}, []int{5, 3, 1, 0, 2, 4})
		x.free(0)
		x.free(5)
		x.free(4)
		at := map[int]int{}
		for _, k := range x.h.Blocks() {
			at[k] = x.h.At(k)
		}
		var l []int
		for _, n := range []int{2, 5, 0, 4} {
			l = append(l, x.alloc(n))
		}
		x.same()
		for k := order; len(l) > 0; k /= 4 {
			i := k % len(l)
			x.free(l[i])
			l = slices.Delete(l, i, i+1)
			x.same()
		}
		for _, k := range x.h.Blocks() {
			if x.h.At(k) != at[k] {
				t.Error(k, x.h.At(k), at[k])
			}
		}
		if a, b := x.h.Room(); a != 13 || b != 6 || len(at) != 3 {
			t.Error(a, b, at)
		}
	}
}

// TestRead: only the words of a block can be read through it, not those of its neighbours.
func TestRead(t *testing.T) {
	x := laid(t, 9, []int{4, 2, 3}, []int{2, 0, 1})
	for _, k := range append(strangers(), 0, 1, 2, 3) {
		for i := -12; i < 12; i++ {
			x.read(k, i)
		}
		for _, i := range strangers() {
			if v, e := x.h.Read(k, i); v != 0 || e != api.ErrNone {
				t.Error(k, i, v, e)
			}
		}
	}
}

// TestWrite: each place and each length, in a block between two others, of one word after another.
func TestWrite(t *testing.T) {
	for _, k := range []int{-1, 0, 1, 2, 3} {
		for i := -3; i < 8; i++ {
			for n := range 8 {
				x := laid(t, 11, []int{3, 4, 4}, []int{0, 1, 2})
				w := make([]int, n)
				for j := range w {
					w[j] = 7000*j + 1
				}
				x.write(k, i, w...)
				x.same()
			}
		}
		x := laid(t, 11, []int{3, 4, 4}, []int{0, 1, 2})
		for _, i := range strangers() {
			if x.h.Write(k, i) != api.ErrNone || x.h.Write(k, i, 1) != api.ErrNone || x.h.Write(k, i, 1, 2, 3, 4, 5) != api.ErrNone {
				t.Error(k, i)
			}
		}
		x.same()
	}
	x := laid(t, 11, []int{3, 4, 4}, []int{0, 1, 2})
	for _, k := range strangers() {
		if x.h.Write(k, 0) != api.ErrNone || x.h.Write(k, 0, 1) != api.ErrNone {
			t.Error(k)
		}
	}
	x.same()
}

// TestWriteErrors: one word of several that is none makes the call change nothing; a place that is none is told of first.
func TestWriteErrors(t *testing.T) {
	for _, bad := range append(strangers(), -1, 65536, 65537) {
		if bad >= 0 && bad <= 65535 {
			continue
		}
		for i := range 4 {
			x := laid(t, 11, []int{3, 4, 4}, []int{0, 1, 2})
			w := []int{0, 65535, 1, 65534}
			w[i] = bad
			if e := x.write(1, 0, w...); e != api.ErrArg {
				t.Error(w, e)
			}
			if e := x.write(1, 3-i, w[:i+1]...); e != api.ErrArg {
				t.Error(w, e)
			}
			if x.write(1, 1, w...) != api.ErrNone || x.write(1, -1, w...) != api.ErrNone || x.write(1, 4, bad) != api.ErrNone || x.write(3, 0, bad) != api.ErrNone {
				t.Error(w)
			}
			x.same()
		}
	}
	x := made(t, 2)
	x.alloc(1)
	for _, v := range []int{0, 1, 255, 256, 32767, 32768, api.Lambda, 65535} {
		if x.write(0, 0, v) != api.OK {
			t.Error(v)
		}
		x.same()
	}
}

// TestCompact: the blocks keep the order of their addresses, not that of their numbers, with their words; those without words remain.
func TestCompact(t *testing.T) {
	x := laid(t, 12, []int{2, 3, 1, 4, 2}, []int{4, 2, 0, 3, 1})
	for range 3 {
		x.alloc(0)
	}
	x.free(6)
	x.free(2)
	x.free(3)
	if n := x.compact(); n != 2 || x.h.At(4) != 0 || x.h.At(0) != 2 || x.h.At(1) != 3 || x.h.At(5) != 0 || x.h.At(7) != 0 {
		t.Error(n, x.h.At(4), x.h.At(0), x.h.At(1), x.h.At(5), x.h.At(7))
	}
	x.same()
	x.free(4)
	if n := x.compact(); n != 2 || x.h.At(0) != 0 || x.h.At(1) != 1 {
		t.Error(n, x.h.At(0), x.h.At(1))
	}
	x.same()
	if k := x.alloc(9); k != 2 || x.h.At(2) != 3 {
		t.Error(k)
	}
	x.same()
}

// TestCompactNear: a block that is moved by less than its own length keeps its words.
func TestCompactNear(t *testing.T) {
	for gap := 1; gap < 12; gap++ {
		x := laid(t, 32, []int{gap, 10, 10}, []int{0, 1, 2})
		x.free(0)
		if n := x.compact(); n != 2 || x.h.At(1) != 0 || x.h.At(2) != 10 {
			t.Error(gap, n)
		}
		x.same()
		x.alloc(12)
		x.same()
	}
}

// TestMemory: lists of words that are handed in are neither changed nor kept, and lists of numbers that are handed out are new.
func TestMemory(t *testing.T) {
	x := laid(t, 9, []int{4, 2, 3}, []int{2, 0, 1})
	w := []int{1, 2, 3, 4, 5}
	x.write(2, 1, w[:3]...)
	if !slices.Equal(w, []int{1, 2, 3, 4, 5}) {
		t.Error("changed", w)
	}
	for i := range w {
		w[i] = 99
	}
	x.same()
	x.write(2, 0, 9, 8, 7, 6)
	if !slices.Equal(w, []int{99, 99, 99, 99, 99}) {
		t.Error("kept", w)
	}
	a, b := x.h.Blocks(), x.h.Blocks()
	for i := range a[:cap(a)] {
		a[:cap(a)][i] = 77
	}
	if !slices.Equal(b, []int{0, 1, 2}) {
		t.Error("Blocks", b)
	}
	x.same()
	x.compact()
	x.same()
}

// TestIndependent: two heaps have nothing in common, not even their numbers.
func TestIndependent(t *testing.T) {
	a, b := laid(t, 6, []int{2, 4}, []int{1, 0}), made(t, 6)
	b.same()
	if b.alloc(5) != 0 {
		t.Error(b.h.Blocks())
	}
	a.same()
	b.fill()
	a.same()
	a.free(1)
	a.compact()
	b.same()
	b.free(0)
	a.same()
	b.same()
}

// TestGreatest: the greatest heap, full of blocks of one word, of which every other one is freed; and many blocks without words.
func TestGreatest(t *testing.T) {
	const n, more = api.MaxHeap, 200000
	h, _ := heap.New(n)
	for k := range n {
		if got, e := h.Alloc(1); got != k || e != api.OK || h.At(k) != k || h.Write(k, 0, k) != api.OK {
			t.Fatal(k, got, e)
		}
	}
	if k, e := h.Alloc(1); k != 0 || e != api.ErrFull {
		t.Fatal(k, e)
	}
	for k := range more {
		if got, e := h.Alloc(0); got != n+k || e != api.OK || h.At(got) != 0 {
			t.Fatal(k, got, e)
		}
	}
	for k := 0; k < n; k += 2 {
		if e := h.Free(k); e != api.OK {
			t.Fatal(k, e)
		}
	}
	if a, b := h.Room(); a != n/2 || b != 1 {
		t.Fatal(a, b)
	}
	if _, e := h.Alloc(2); e != api.ErrFull {
		t.Fatal(e)
	}
	if moved := h.Compact(); moved != n/2 || len(h.Blocks()) != n/2+more {
		t.Fatal(moved, len(h.Blocks()))
	}
	for k := 1; k < n; k += 2 {
		if v, e := h.Read(k, 0); v != k || e != api.OK || h.At(k) != k/2 {
			t.Fatal(k, v, e, h.At(k))
		}
	}
	if k, e := h.Alloc(n / 2); k != 0 || e != api.OK || h.At(0) != n/2 {
		t.Fatal(k, e)
	}
	if v, e := h.Read(0, n/2-1); v != 0 || e != api.OK {
		t.Fatal(v, e)
	}
}

// TestLong: long work by chance on heaps of several sizes, held against the model.
func TestLong(t *testing.T) {
	for _, n := range []int{1, 2, 5, 17, 60} {
		t.Run(fmt.Sprint(n), func(t *testing.T) {
			r := rand.New(rand.NewSource(1))
			x := made(t, n)
			for range 4000 {
				x.step(r)
				x.same()
			}
		})
	}
}

// step makes one call, mostly on a block that exists.
func (x pair) step(r *rand.Rand) {
	x.Helper()
	pick := func() int {
		if l := x.p.numbers(); len(l) > 0 && r.Intn(8) > 0 {
			return l[r.Intn(len(l))]
		}
		return r.Intn(len(x.p.blocks)+4) - 1
	}
	switch r.Intn(10) {
	case 0, 1, 2:
		x.alloc(r.Intn(max(2, x.p.n/3)))
	case 3:
		x.alloc(r.Intn(x.p.n+4) - 1)
	case 4, 5, 6:
		x.free(pick())
	case 7, 8:
		w := make([]int, r.Intn(6))
		for i := range w {
			w[i] = r.Intn(65538) - 1
		}
		x.write(pick(), r.Intn(8)-1, w...)
	case 9:
		if r.Intn(4) == 0 {
			x.compact()
		}
	}
}
