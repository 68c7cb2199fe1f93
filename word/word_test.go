package word_test

import (
	"bytes"
	"math"
	"slices"
	"testing"

	"webster/api"
	"webster/word"
)

// edges are the numbers around which some call of the package changes its answer, and the ends of int.
func edges() []int {
	var l []int
	for _, n := range []int{
		0, 255, 256, 1 << 14, 1 << 15, 1 << 16, 1 << 24, api.Lambda,
		api.MaxSmall, 1 << 30, 1 << 31, 1 << 32, 1 << 33, 1 << 62,
	} {
		for d := -3; d <= 3; d++ {
			l = append(l, n+d, -n+d)
		}
	}
	return append(l, math.MaxInt, math.MaxInt-1, math.MinInt, math.MinInt+1)
}

func TestSmall(t *testing.T) {
	for _, c := range []struct {
		n, o int
		e    api.Errno
	}{
		{0, 1, api.OK},
		{1, 3, api.OK},
		{-1, -1, api.OK},
		{-2, -3, api.OK},
		{1000, 2001, api.OK},
		{api.MaxSmall, 1<<31 - 1, api.OK},
		{api.MinSmall, -1<<31 + 1, api.OK},
		{api.MaxSmall + 1, 0, api.ErrArg},
		{api.MinSmall - 1, 0, api.ErrArg},
		{1 << 31, 0, api.ErrArg},
		{1 << 62, 0, api.ErrArg},
		{-1 << 62, 0, api.ErrArg},
		{math.MaxInt, 0, api.ErrArg},
		{math.MinInt, 0, api.ErrArg},
	} {
		if o, e := word.Small(c.n); o != c.o || e != c.e {
			t.Errorf("Small(%d) = %d, %d; want %d, %d", c.n, o, e, c.o, c.e)
		}
	}
}

func TestNumber(t *testing.T) {
	for _, c := range []struct {
		o, n int
		ok   bool
	}{
		{1, 0, true},
		{3, 1, true},
		{-1, -1, true},
		{-3, -2, true},
		{1<<31 - 1, api.MaxSmall, true},
		{-1<<31 + 1, api.MinSmall, true},
		{1<<31 + 1, 0, false},
		{-1<<31 - 1, 0, false},
		{0, 0, false},
		{2, 0, false},
		{-2, 0, false},
		{1 << 31, 0, false},
		{1<<32 + 1, 0, false},
		{math.MaxInt, 0, false},
		{math.MinInt, 0, false},
		{math.MinInt + 1, 0, false},
	} {
		if n, ok := word.Number(c.o); n != c.n || ok != c.ok {
			t.Errorf("Number(%d) = %d, %t; want %d, %t", c.o, n, ok, c.n, c.ok)
		}
	}
}

func TestNamed(t *testing.T) {
	for _, c := range []struct {
		o, id int
		ok    bool
	}{
		{api.Nil, 1, true},
		{api.True, 2, true},
		{6, 3, true},
		{8, 4, true},
		{1<<31 - 2, 1<<30 - 1, true},
		{0, 0, false},
		{1, 0, false},
		{7, 0, false},
		{-1, 0, false},
		{-2, 0, false},
		{-8, 0, false},
		{1<<31 - 1, 0, false},
		{1 << 31, 0, false},
		{1<<31 + 2, 0, false},
		{1<<32 + 2, 0, false},
		{-1 << 31, 0, false},
		{math.MaxInt - 1, 0, false},
		{math.MinInt, 0, false},
	} {
		if id, ok := word.Named(c.o); id != c.id || ok != c.ok {
			t.Errorf("Named(%d) = %d, %t; want %d, %t", c.o, id, ok, c.id, c.ok)
		}
	}
}

func TestOop(t *testing.T) {
	for _, c := range []struct{ id, o int }{
		{1, api.Nil},
		{4, 8},
		{1<<30 - 1, 1<<31 - 2},
		{0, 0},
		{-1, 0},
		{1 << 30, 0},
		{1<<30 + 1, 0},
		{1 << 31, 0},
		{1<<62 + 1, 0},
		{math.MaxInt, 0},
		{math.MinInt, 0},
		{math.MinInt + 1, 0},
	} {
		if o := word.Oop(c.id); o != c.o {
			t.Errorf("Oop(%d) = %d; want %d", c.id, o, c.o)
		}
	}
}

func TestPut(t *testing.T) {
	for _, c := range []struct {
		o int
		b []byte
	}{
		{0, []byte{0, 0, 0, 0}},
		{258, []byte{0, 0, 1, 2}},
		{-1, []byte{255, 255, 255, 255}},
		{-2, []byte{255, 255, 255, 254}},
		{0x01020304, []byte{1, 2, 3, 4}},
		{1<<31 - 1, []byte{127, 255, 255, 255}},
		{-1 << 31, []byte{128, 0, 0, 0}},
		{1 << 31, []byte{128, 0, 0, 0}},
		{1<<32 + 5, []byte{0, 0, 0, 5}},
		{math.MaxInt, []byte{255, 255, 255, 255}},
		{math.MinInt, []byte{0, 0, 0, 0}},
	} {
		if b := word.Put(c.o); !bytes.Equal(b, c.b) {
			t.Errorf("Put(%d) = %v; want %v", c.o, b, c.b)
		}
	}
}

func TestGet(t *testing.T) {
	five := []byte{9, 255, 255, 255, 254}
	for _, c := range []struct {
		b     []byte
		at, n int
		e     api.Errno
	}{
		{[]byte{0, 0, 1, 2}, 0, 258, api.OK},
		{[]byte{1, 2, 3, 4, 5}, 0, 0x01020304, api.OK},
		{[]byte{1, 2, 3, 4, 5}, 1, 0x02030405, api.OK},
		{five, 1, -2, api.OK},
		{[]byte{127, 255, 255, 255}, 0, 1<<31 - 1, api.OK},
		{[]byte{128, 0, 0, 0}, 0, -1 << 31, api.OK},
		{five, -1, 0, api.ErrArg},
		{five, 2, 0, api.ErrArg},
		{five, 5, 0, api.ErrArg},
		{five, 6, 0, api.ErrArg},
		{five, math.MaxInt, 0, api.ErrArg},
		{five, math.MaxInt - 3, 0, api.ErrArg},
		{five, math.MinInt, 0, api.ErrArg},
		{five[:3], 0, 0, api.ErrArg},
		{[]byte{}, 0, 0, api.ErrArg},
		{nil, 0, 0, api.ErrArg},
		{nil, -4, 0, api.ErrArg},
		{nil, math.MinInt, 0, api.ErrArg},
	} {
		if n, e := word.Get(c.b, c.at); n != c.n || e != c.e {
			t.Errorf("Get(%v, %d) = %d, %d; want %d, %d", c.b, c.at, n, e, c.n, c.e)
		}
	}
}

// TestGetStopsAtLength: spare capacity behind a slice is not part of it.
func TestGetStopsAtLength(t *testing.T) {
	b := make([]byte, 3, 64)
	if n, e := word.Get(b, 0); n != 0 || e != api.ErrArg {
		t.Error(n, e)
	}
}

func TestAll(t *testing.T) {
	for _, c := range []struct {
		l []int
		b []byte
	}{
		{nil, nil},
		{[]int{7}, []byte{0, 0, 0, 7}},
		{[]int{258, -1}, []byte{0, 0, 1, 2, 255, 255, 255, 255}},
		{[]int{-1 << 31, 1 << 32, 3}, []byte{128, 0, 0, 0, 0, 0, 0, 0, 0, 0, 0, 3}},
	} {
		if b := word.All(c.l...); !bytes.Equal(b, c.b) {
			t.Errorf("All(%v) = %v; want %v", c.l, b, c.b)
		}
	}
	l := edges()
	b := word.All(l...)
	if len(b) != 4*len(l) {
		t.Fatal(len(b), len(l))
	}
	for i, o := range l {
		if !bytes.Equal(b[4*i:4*i+4], word.Put(o)) {
			t.Error(i, o, b[4*i:4*i+4])
		}
	}
}

func TestNarrow(t *testing.T) {
	for _, c := range []struct {
		o, w int
		ok   bool
	}{
		{1, 1, true},
		{3, 3, true},
		{-1, 65535, true},
		{-3, 65533, true},
		{2*16383 + 1, 32767, true},
		{-2*16384 + 1, 32769, true},
		{2*16384 + 1, 0, false},
		{-2*16385 + 1, 0, false},
		{1<<31 - 1, 0, false},
		{-1<<31 + 1, 0, false},
		{1<<31 + 1, 0, false},
		{1<<32 + 1, 0, false},
		{0, 0, false},
		{2, 0, false},
		{-2, 0, false},
		{api.Lambda, 0, false},
		{math.MaxInt, 0, false},
		{math.MinInt, 0, false},
		{math.MinInt + 1, 0, false},
	} {
		if w, ok := word.Narrow(c.o); w != c.w || ok != c.ok {
			t.Errorf("Narrow(%d) = %d, %t; want %d, %t", c.o, w, ok, c.w, c.ok)
		}
	}
}

func TestWide(t *testing.T) {
	for _, c := range []struct {
		w, o int
		ok   bool
	}{
		{1, 1, true},
		{3, 3, true},
		{65535, -1, true},
		{32767, 2*16383 + 1, true},
		{32769, -2*16384 + 1, true},
		{0, 0, false},
		{2, 0, false},
		{32768, 0, false},
		{api.Lambda, 0, false},
		{65536, 0, false},
		{65537, 0, false},
		{131071, 0, false},
		{-1, 0, false},
		{-65535, 0, false},
		{math.MaxInt, 0, false},
		{math.MinInt, 0, false},
		{math.MinInt + 1, 0, false},
	} {
		if o, ok := word.Wide(c.w); o != c.o || ok != c.ok {
			t.Errorf("Wide(%d) = %d, %t; want %d, %t", c.w, o, ok, c.o, c.ok)
		}
	}
}

// TestNumbersOfReferences: a reference has a number if and only if it is that number's Small.
func TestNumbersOfReferences(t *testing.T) {
	for _, n := range edges() {
		o, e := word.Small(n)
		if valid := n >= api.MinSmall && n <= api.MaxSmall; valid != (e == api.OK) {
			t.Error("Small", n, e)
		}
		if e != api.OK {
			continue
		}
		if m, ok := word.Number(o); m != n || !ok {
			t.Error("Number", o, m, ok)
		}
	}
	for _, o := range edges() {
		n, ok := word.Number(o)
		if valid := o%2 != 0 && o > -1<<31 && o < 1<<31; valid != ok {
			t.Error("Number", o, ok)
		}
		if !ok {
			continue
		}
		if p, e := word.Small(n); p != o || e != api.OK {
			t.Error("Small", n, p, e)
		}
	}
}

// TestNamesOfObjects: a reference names an object if and only if it is that object's Oop.
func TestNamesOfObjects(t *testing.T) {
	for _, n := range edges() {
		o := word.Oop(n)
		if valid := n >= 1 && n < 1<<30; valid != (o != 0) {
			t.Error("Oop", n, o)
		}
		if id, ok := word.Named(o); o != 0 && (id != n || !ok) {
			t.Error("Named", o, id, ok)
		}
		id, ok := word.Named(n)
		if valid := n%2 == 0 && n > 0 && n < 1<<31; valid != ok {
			t.Error("Named", n, ok)
		}
		if ok && word.Oop(id) != n {
			t.Error("Oop", id, n)
		}
	}
}

// TestNoNumberIsAName: no reference represents a number and names an object.
func TestNoNumberIsAName(t *testing.T) {
	for _, o := range edges() {
		_, number := word.Number(o)
		_, named := word.Named(o)
		if number && named {
			t.Error(o)
		}
	}
}

// TestWordsAndBytes: Get of Put is the number itself within 32 bits, and Put of Get the bytes.
func TestWordsAndBytes(t *testing.T) {
	for _, o := range edges() {
		b := word.Put(o)
		n, e := word.Get(b, 0)
		if len(b) != 4 || n != int(int32(o)) || e != api.OK {
			t.Error(o, b, n, e)
		}
	}
	for _, high := range []byte{0, 1, 127, 128, 255} {
		for low := range 256 {
			b := []byte{high, byte(low), byte(255 - low), byte(low)}
			n, e := word.Get(b, 0)
			if n < math.MinInt32 || n > math.MaxInt32 || e != api.OK || !bytes.Equal(word.Put(n), b) {
				t.Error(b, n, e)
			}
		}
	}
}

// TestEveryNarrowWord: just the odd words of 16 bits have a reference, each one its own.
func TestEveryNarrowWord(t *testing.T) {
	for w := -10; w < 1<<17; w++ {
		o, ok := word.Wide(w)
		if valid := w > 0 && w < 1<<16 && w%2 == 1; valid != ok {
			t.Fatal("Wide", w, ok)
		}
		if !ok {
			if o != 0 {
				t.Fatal("Wide", w, o)
			}
			continue
		}
		if v, ok := word.Narrow(o); v != w || !ok {
			t.Fatal("Narrow", o, v, ok)
		}
	}
	for n := -1 << 15; n < 1<<15; n++ {
		o, _ := word.Small(n)
		w, ok := word.Narrow(o)
		if valid := n >= -16384 && n <= 16383; valid != ok {
			t.Fatal("Narrow", n, ok)
		}
		if p, back := word.Wide(w); ok && (p != o || !back) {
			t.Fatal("Wide", w, p, back)
		}
		if w == api.Lambda {
			t.Fatal("Lambda", n)
		}
	}
}

// TestNewMemory: arguments stay as they are, and results share nothing.
func TestNewMemory(t *testing.T) {
	l := []int{1, 2, 3}
	a, b := word.All(l...), word.All(l...)
	p, q := word.Put(1), word.Put(1)
	for _, r := range [][]byte{a[:cap(a)], p[:cap(p)]} {
		for i := range r {
			r[i] = 99
		}
	}
	if !bytes.Equal(b, []byte{0, 0, 0, 1, 0, 0, 0, 2, 0, 0, 0, 3}) || !bytes.Equal(q, []byte{0, 0, 0, 1}) {
		t.Error(b, q)
	}
	if !slices.Equal(l, []int{1, 2, 3}) {
		t.Error(l)
	}
	in := []byte{1, 2, 3, 4, 5}
	word.Get(in, 1)
	if !bytes.Equal(in, []byte{1, 2, 3, 4, 5}) {
		t.Error(in)
	}
}
