package wide_test

import (
	"bytes"
	"encoding/binary"
	"math"
	"math/rand"
	"slices"
	"testing"

	"webster/api"
	"webster/wide"
)

// The model: what the document says of objects, in the plainest form, without package word.

// names reports whether the reference v names an object.
func names(v int) bool { return v > 0 && v < 1<<31 && v%2 == 0 }

// number reports whether the reference v represents a small integer.
func number(v int) bool { return v > -1<<31 && v < 1<<31 && v%2 != 0 }

// right reports whether o is valid.
func right(o api.Obj) bool {
	if !names(o.Class) {
		return false
	}
	if o.Kind == api.Bytes {
		return len(o.B) <= api.MaxWords && len(o.W) == 0
	}
	for _, v := range o.W {
		if !names(v) && !number(v) {
			return false
		}
	}
	return o.Kind == api.Words && len(o.W) <= api.MaxWords && len(o.B) == 0
}

// written returns the bytes of a head of these numbers, of words, and of bytes, whether they are an encoding or not.
func written(class, kind, size int, w []int, b []byte) []byte {
	var out []byte
	for _, v := range append([]int{class, kind, size}, w...) {
		out = binary.BigEndian.AppendUint32(out, uint32(v))
	}
	return append(out, b...)
}

// encoded returns the encoding of o, which is valid.
func encoded(o api.Obj) []byte {
	return written(o.Class, o.Kind, len(o.W)+len(o.B), o.W, o.B)
}

// read returns the object whose encoding is b, if there is one.
func read(b []byte) (api.Obj, bool) {
	var l []int
	for i := 0; i+4 <= len(b); i += 4 {
		l = append(l, int(int32(binary.BigEndian.Uint32(b[i:]))))
	}
	if len(l) < 3 {
		return api.Obj{}, false
	}
	o := api.Obj{Class: l[0], Kind: l[1]}
	if o.Kind == api.Words {
		o.W = l[3:]
	} else {
		o.B = b[12:]
	}
	if !right(o) || !bytes.Equal(encoded(o), b) {
		return api.Obj{}, false
	}
	return o, true
}

// equal reports whether two objects are equal field by field; a nil list and an empty one are.
func equal(a, b api.Obj) bool {
	same := a.Class == b.Class && a.Kind == b.Kind && len(a.W) == len(b.W) && len(a.B) == len(b.B)
	for i := 0; same && i < len(a.W); i++ {
		same = a.W[i] == b.W[i]
	}
	for i := 0; same && i < len(a.B); i++ {
		same = a.B[i] == b.B[i]
	}
	return same
}

// none reports whether o is the zero object.
func none(o api.Obj) bool { return equal(o, api.Obj{}) }

// ends are numbers near the ends of the ranges that the document names, and of int.
func ends() []int {
	var l []int
	for _, n := range []int{0, 1 << 8, 1 << 30, 1 << 31, 1 << 32, 1 << 33, 1 << 62} {
		for d := -3; d <= 3; d++ {
			l = append(l, n+d, -n+d)
		}
	}
	return append(l, math.MaxInt, math.MaxInt-1, math.MaxInt-2, math.MinInt, math.MinInt+1, math.MinInt+2)
}

// kinds are both kinds, and numbers that are none; the last ones end on the bits of one.
func kinds() []int {
	return []int{api.Words, api.Bytes, 0, 3, 4, -1, -2, math.MaxInt, math.MinInt, 1<<32 + 1, 1<<32 + 2, 1 << 32, math.MinInt + 1}
}

// many returns n words that are all valid and differ from their neighbours.
func many(n int) []int {
	l := make([]int, n)
	for i := range l {
		l[i] = i + 1
		if i%3 == 2 {
			l[i] = -2*i - 1
		}
	}
	return l
}

// some returns n bytes.
func some(n int) []byte {
	b := make([]byte, n)
	for i := range b {
		b[i] = byte(7*i + 250)
	}
	return b
}

// samples are valid objects of both kinds: ordinary ones, and those at the edges.
func samples() []api.Obj {
	l := []api.Obj{
		{Class: 6, Kind: api.Words, W: []int{3, 8}},
		{Class: 6, Kind: api.Words, W: []int{3, 8, -1}},
		{Class: 2, Kind: api.Words},
		{Class: 2, Kind: api.Words, W: []int{}, B: []byte{}},
		{Class: 1<<31 - 2, Kind: api.Words, W: []int{1<<31 - 2, 1<<31 - 1, -1<<31 + 1, 1, 2, -1}},
		{Class: 10, Kind: api.Words, W: []int{10, 10, 10}},
		{Class: 2, Kind: api.Bytes, B: []byte("xy")},
		{Class: 2, Kind: api.Bytes},
		{Class: 4, Kind: api.Bytes, W: []int{}, B: []byte{}},
		{Class: 1<<31 - 2, Kind: api.Bytes, B: []byte{0, 255, 128, 0, 0}},
	}
	for _, n := range []int{1, 3, 4, 5, 255, 256, api.MaxWords - 1, api.MaxWords} {
		l = append(l, api.Obj{Class: 8, Kind: api.Words, W: many(n)}, api.Obj{Class: 8, Kind: api.Bytes, B: some(n)})
	}
	return l
}

// checked holds Check and Encode of o against the model, and what comes of its encoding.
func checked(t *testing.T, o api.Obj) {
	t.Helper()
	was := api.Obj{Class: o.Class, Kind: o.Kind, W: slices.Clone(o.W), B: slices.Clone(o.B)}
	c := wide.Check(o)
	b, e := wide.Encode(o)
	if !equal(o, was) {
		t.Errorf("Check or Encode changed %v to %v", was, o)
	}
	if !right(o) {
		if c != api.ErrArg || e != api.ErrArg || len(b) != 0 {
			t.Errorf("%v: Check %d, Encode %v, %d; want ErrArg", o, c, b, e)
		}
		return
	}
	if c != api.OK || e != api.OK || !bytes.Equal(b, encoded(o)) {
		t.Errorf("%v: Check %d, Encode %v, %d; want %v", o, c, b, e, encoded(o))
	}
	if p, e := wide.Decode(b); e != api.OK || !equal(p, o) {
		t.Errorf("Decode(%v) = %v, %d; want %v", b, p, e, o)
	}
}

// decoded holds Decode of b against the model, and that what came out is written as b.
func decoded(t *testing.T, b []byte) {
	t.Helper()
	was := bytes.Clone(b)
	want, ok := read(b)
	o, e := wide.Decode(b)
	w, f := wide.Word(b, 0)
	if !bytes.Equal(b, was) {
		t.Fatalf("Decode or Word changed %v to %v", was, b)
	}
	if !ok {
		if e != api.ErrForm || !none(o) || f != api.ErrForm || w != 0 {
			t.Fatalf("%v: Decode %v, %d, Word %d, %d; want ErrForm", b, o, e, w, f)
		}
		return
	}
	if e != api.OK || !equal(o, want) {
		t.Fatalf("Decode(%v) = %v, %d; want %v", b, o, e, want)
	}
	if c, e := wide.Encode(o); e != api.OK || !bytes.Equal(c, b) {
		t.Fatalf("Encode(Decode(%v)) = %v, %d", b, c, e)
	}
}

func TestExamples(t *testing.T) {
	o := api.Obj{Class: 6, Kind: api.Words, W: []int{3, 8}}
	want := []byte{0, 0, 0, 6, 0, 0, 0, 1, 0, 0, 0, 2, 0, 0, 0, 3, 0, 0, 0, 8}
	if b, e := wide.Encode(o); e != api.OK || !bytes.Equal(b, want) {
		t.Error(b, e)
	}
	if p, e := wide.Decode(want); e != api.OK || !equal(p, o) {
		t.Error(p, e)
	}
	o = api.Obj{Class: 2, Kind: api.Bytes, B: []byte{255, 0}}
	want = []byte{0, 0, 0, 2, 0, 0, 0, 2, 0, 0, 0, 2, 255, 0}
	if b, e := wide.Encode(o); e != api.OK || !bytes.Equal(b, want) {
		t.Error(b, e)
	}
	if p, e := wide.Decode(want); e != api.OK || !equal(p, o) {
		t.Error(p, e)
	}
}

func TestSamples(t *testing.T) {
	for _, o := range samples() {
		if !right(o) {
			t.Fatal(o)
		}
		checked(t, o)
		decoded(t, encoded(o))
	}
}

// TestClasses: a class that names an object, and one that names none, for either kind.
func TestClasses(t *testing.T) {
	for _, class := range append(ends(), api.Nil, api.True, api.False, 7, -6) {
		checked(t, api.Obj{Class: class, Kind: api.Words, W: []int{3}})
		checked(t, api.Obj{Class: class, Kind: api.Words})
		checked(t, api.Obj{Class: class, Kind: api.Bytes, B: []byte{3}})
		checked(t, api.Obj{Class: class, Kind: api.Bytes})
		decoded(t, written(class, api.Words, 1, []int{3}, nil))
		decoded(t, written(class, api.Bytes, 1, nil, []byte{3}))
		decoded(t, written(class, api.Words, 0, nil, nil))
		decoded(t, written(class, api.Bytes, 0, nil, nil))
	}
}

// TestKinds: each kind, and numbers that are none, with words, with bytes, with both, and with neither.
func TestKinds(t *testing.T) {
	for _, kind := range kinds() {
		for _, w := range [][]int{nil, {}, {3}, {3, 8, 10}, {0}} {
			for _, b := range [][]byte{nil, {}, {3}, {0, 0, 0, 3}, {0, 0, 0, 0}} {
				checked(t, api.Obj{Class: 6, Kind: kind, W: w, B: b})
				checked(t, api.Obj{Class: 5, Kind: kind, W: w, B: b})
				for size := -1; size <= 5; size++ {
					decoded(t, written(6, kind, size, w, b))
				}
			}
		}
	}
}

// TestWordsOfObjects: words that are small integers, that name objects, and that do neither, at each place.
func TestWordsOfObjects(t *testing.T) {
	for _, v := range ends() {
		for at := range 4 {
			w := []int{3, 8, -1, 2}
			w[at] = v
			checked(t, api.Obj{Class: 6, Kind: api.Words, W: w})
			decoded(t, written(6, api.Words, 4, w, nil))
		}
	}
	for _, n := range []int{1, 2, api.MaxWords} {
		for _, at := range []int{0, n / 2, n - 1} {
			w := many(n)
			w[at] = 0
			checked(t, api.Obj{Class: 6, Kind: api.Words, W: w})
			decoded(t, written(6, api.Words, n, w, nil))
		}
	}
}

// TestSizes: no words or bytes, as many as may be, and more; the words of a size that may not be are all valid.
func TestSizes(t *testing.T) {
	for _, n := range []int{0, 1, api.MaxWords - 1, api.MaxWords, api.MaxWords + 1, api.MaxWords + 2, 4 * api.MaxWords, 1 << 16} {
		for _, o := range []api.Obj{{Class: 2, Kind: api.Words, W: many(n)}, {Class: 2, Kind: api.Bytes, B: some(n)}} {
			if right(o) != (n <= api.MaxWords) {
				t.Fatal(n)
			}
			checked(t, o)
			decoded(t, encoded(o))
			if s := wide.Size(o); s != n {
				t.Error(s, n)
			}
		}
	}
}

// TestSizeFields: a size that is not that of the words or bytes behind it.
func TestSizeFields(t *testing.T) {
	for _, size := range append(ends(), 999, 1000, 1001, 4000, 1<<30+1, -1<<30, 1<<24, 0x03000000) {
		for n := range 6 {
			decoded(t, written(6, api.Words, size, many(n), nil))
			decoded(t, written(6, api.Bytes, size, nil, some(n)))
			decoded(t, written(6, api.Bytes, size, many(n), nil))
		}
	}
}

// TestBeside: words beside bytes, for either kind.
func TestBeside(t *testing.T) {
	for _, kind := range []int{api.Words, api.Bytes} {
		for _, o := range []api.Obj{
			{Class: 2, Kind: kind, W: []int{1}, B: []byte{1}},
			{Class: 2, Kind: kind, W: many(api.MaxWords), B: some(api.MaxWords)},
			{Class: 2, Kind: kind, W: many(api.MaxWords + 1), B: []byte{1}},
			{Class: 2, Kind: kind, W: []int{1}, B: some(api.MaxWords + 1)},
		} {
			if b, e := wide.Encode(o); wide.Check(o) != api.ErrArg || e != api.ErrArg || len(b) != 0 {
				t.Error(kind, len(o.W), len(o.B), e)
			}
		}
	}
}

// TestEmpty: lists that are nil and lists that are empty are the same.
func TestEmpty(t *testing.T) {
	for _, kind := range []int{api.Words, api.Bytes} {
		a := api.Obj{Class: 4, Kind: kind}
		b := api.Obj{Class: 4, Kind: kind, W: []int{}, B: []byte{}}
		x, e := wide.Encode(a)
		y, f := wide.Encode(b)
		if e != api.OK || f != api.OK || !bytes.Equal(x, y) || !bytes.Equal(x, []byte{0, 0, 0, 4, 0, 0, 0, byte(kind), 0, 0, 0, 0}) {
			t.Error(kind, x, e, y, f)
		}
		if !wide.Same(a, b) || !wide.Same(b, a) || wide.Size(a) != 0 || wide.Size(b) != 0 {
			t.Error(kind)
		}
		if !slices.Equal(wide.Refs(a), []int{2}) || !slices.Equal(wide.Refs(b), []int{2}) {
			t.Error(wide.Refs(a), wide.Refs(b))
		}
		if !equal(wide.Copy(a), a) || !equal(wide.Copy(b), a) {
			t.Error(wide.Copy(a), wide.Copy(b))
		}
		if p, e := wide.Decode(x); e != api.OK || !equal(p, a) {
			t.Error(p, e)
		}
	}
	for _, b := range [][]byte{nil, {}} {
		if o, e := wide.Decode(b); e != api.ErrForm || !none(o) {
			t.Error(o, e)
		}
		if w, e := wide.Word(b, 0); e != api.ErrForm || w != 0 {
			t.Error(w, e)
		}
	}
}

func TestSize(t *testing.T) {
	for _, kind := range kinds() {
		want := 0
		switch kind {
		case api.Words:
			want = 2
		case api.Bytes:
			want = 3
		}
		for _, class := range []int{2, 0} {
			if n := wide.Size(api.Obj{Class: class, Kind: kind, W: []int{0, 3}, B: []byte{1, 2, 3}}); n != want {
				t.Error(kind, n, want)
			}
		}
	}
	if n := wide.Size(api.Obj{}); n != 0 {
		t.Error(n)
	}
}

// TestCutAndLengthened: an encoding without each number of its last or first bytes, and with some behind or ahead.
func TestCutAndLengthened(t *testing.T) {
	for _, o := range samples() {
		b := encoded(o)
		for n := range b {
			// Behind the cut the array still holds the rest, which is not to be read.
			if p, e := wide.Decode(b[:n]); e != api.ErrForm || !none(p) {
				t.Fatal(o, n, p, e)
			}
			if w, e := wide.Word(b[:n], 0); e != api.ErrForm || w != 0 {
				t.Fatal(o, n, w, e)
			}
			decoded(t, b[n:])
		}
		for _, more := range [][]byte{{0}, {0, 0}, {0, 0, 0}, {0, 0, 0, 3}, {0, 0, 0, 0}, {9, 9, 9, 9, 9}, b} {
			decoded(t, append(bytes.Clone(b), more...))
			decoded(t, append(bytes.Clone(more), b...))
		}
	}
}

// TestEveryByteChanged: an encoding with any one byte changed to any other.
func TestEveryByteChanged(t *testing.T) {
	for _, o := range []api.Obj{
		{Class: 6, Kind: api.Words, W: []int{3, 8, -1}},
		{Class: 6, Kind: api.Bytes, B: []byte{3, 8, 255}},
		{Class: 6, Kind: api.Words},
		{Class: 6, Kind: api.Bytes},
		{Class: 6, Kind: api.Bytes, B: []byte{0, 0, 0, 4}},
		{Class: 1<<31 - 2, Kind: api.Words, W: many(5)},
	} {
		b := encoded(o)
		for i, old := range b {
			for c := range 256 {
				b[i] = byte(c)
				decoded(t, b)
			}
			b[i] = old
		}
	}
}

// TestByChance: bytes and objects that are mostly nearly right.
func TestByChance(t *testing.T) {
	r := rand.New(rand.NewSource(5))
	word := func() int {
		switch r.Intn(12) {
		case 0:
			return int(r.Uint64())
		case 1:
			return ends()[r.Intn(len(ends()))]
		}
		return r.Intn(1<<31-1) + 1
	}
	valid := 0
	for range 30000 {
		o := api.Obj{Class: word() &^ 1, Kind: 1 + r.Intn(2)}
		for range r.Intn(5) {
			if o.Kind == api.Words || r.Intn(30) == 0 {
				o.W = append(o.W, word())
			} else {
				o.B = append(o.B, byte(r.Intn(256)))
			}
		}
		checked(t, o)
		if right(o) {
			valid++
		}
		b := encoded(o)
		if r.Intn(2) == 0 {
			b[r.Intn(len(b))] ^= 1 << r.Intn(8)
		}
		decoded(t, b)
	}
	if valid < 10000 || valid > 29000 {
		t.Error(valid)
	}
}

func TestWord(t *testing.T) {
	far := []int{-1, -2, -4, math.MinInt, math.MinInt + 1, math.MinInt / 4, math.MaxInt, math.MaxInt - 1, math.MaxInt / 4, 1 << 30, 1 << 32, 1 << 62, -1 << 62}
	for _, o := range samples() {
		b := encoded(o)
		beyond := append(slices.Clone(far), len(o.W), len(o.W)+1, len(b), len(b)/4)
		for i, want := range o.W {
			if w, e := wide.Word(b, i); w != want || e != api.OK {
				t.Fatal(o, i, w, e)
			}
		}
		want := api.ErrNone
		if o.Kind == api.Bytes {
			want = api.ErrArg
			beyond = append(beyond, 0, 1)
		}
		for _, i := range beyond {
			if w, e := wide.Word(b, i); w != 0 || e != want {
				t.Fatal(o, i, w, e)
			}
		}
		bad := append(bytes.Clone(b), 1)
		for _, i := range append(beyond, 0) {
			if w, e := wide.Word(bad, i); w != 0 || e != api.ErrForm {
				t.Fatal(o, i, w, e)
			}
		}
	}
}

// TestWordOfNoEncoding: one word that may not be, or a class, makes all of them unreadable.
func TestWordOfNoEncoding(t *testing.T) {
	for _, b := range [][]byte{
		written(6, api.Words, 3, []int{3, 5, 0}, nil),
		written(6, api.Words, 3, []int{3, 5, -2}, nil),
		written(6, api.Words, 3, []int{0, 5, 7}, nil),
		written(5, api.Words, 3, []int{3, 5, 7}, nil),
		written(0, api.Words, 3, []int{3, 5, 7}, nil),
		written(6, 3, 3, []int{3, 5, 7}, nil),
		written(6, 0, 3, []int{3, 5, 7}, nil),
		written(6, api.Words, 4, []int{3, 5, 7}, nil),
		written(6, api.Words, 2, []int{3, 5, 7}, nil),
		written(5, api.Bytes, 1, nil, []byte{1}),
		written(6, api.Bytes, 2, nil, []byte{1}),
		written(6, api.Words, api.MaxWords+1, many(api.MaxWords+1), nil),
		written(6, api.Bytes, api.MaxWords+1, nil, some(api.MaxWords+1)),
	} {
		for i := -1; i < 5; i++ {
			if w, e := wide.Word(b, i); w != 0 || e != api.ErrForm {
				t.Error(b[:12], i, w, e)
			}
		}
	}
}

func TestRefs(t *testing.T) {
	for _, c := range []struct {
		o    api.Obj
		want []int
	}{
		{api.Obj{Class: 6, Kind: api.Words, W: []int{3, 8, -1}}, []int{3, 4}},
		{api.Obj{Class: 6, Kind: api.Words}, []int{3}},
		{api.Obj{Class: 6, Kind: api.Words, W: []int{1, 3, -1}}, []int{3}},
		{api.Obj{Class: 6, Kind: api.Words, W: []int{8, 2, 8, 5, 6, 2}}, []int{3, 4, 1, 4, 3, 1}},
		{api.Obj{Class: 1<<31 - 2, Kind: api.Words, W: []int{1<<31 - 2, 1<<31 - 1}}, []int{1<<30 - 1, 1<<30 - 1}},
		{api.Obj{Class: 4, Kind: api.Bytes, B: []byte{2, 4, 6, 8}}, []int{2}},
		// Those that are not valid name what they name all the same.
		{api.Obj{}, nil},
		{api.Obj{Class: 5, Kind: api.Words, W: []int{4}}, []int{2}},
		{api.Obj{Class: -6, Kind: api.Words, W: []int{0, -2, 4, 1 << 31, -1 << 31, math.MinInt, math.MaxInt, math.MaxInt - 1, 6}}, []int{2, 3}},
		{api.Obj{Class: 1 << 31, Kind: api.Bytes, B: []byte{2}}, nil},
		{api.Obj{Class: 1<<32 + 2, Kind: api.Words, W: []int{1<<32 + 2}}, nil},
		{api.Obj{Class: 6, Kind: 3, W: []int{8}}, []int{3, 4}},
		{api.Obj{Class: 6, W: []int{8}}, []int{3, 4}},
		{api.Obj{Class: 6, Kind: api.Bytes, W: []int{8}, B: []byte{1}}, []int{3, 4}},
		{api.Obj{Class: 6, Kind: api.Words, W: []int{8}, B: []byte{1}}, []int{3, 4}},
	} {
		if l := wide.Refs(c.o); !slices.Equal(l, c.want) {
			t.Errorf("Refs(%v) = %v; want %v", c.o, l, c.want)
		}
	}
	long := api.Obj{Class: 2, Kind: api.Words}
	for i := range api.MaxWords + 5 {
		long.W = append(long.W, 2*i+2)
	}
	l := wide.Refs(long)
	if len(l) != api.MaxWords+6 || l[0] != 1 || l[1] != 1 || l[api.MaxWords+5] != api.MaxWords+5 {
		t.Error(len(l))
	}
}

// alike are objects of which each differs from the others, many of them in one field alone, or at one place of it.
func alike() []api.Obj {
	return []api.Obj{
		{},
		{Class: 6},
		{Kind: api.Words},
		{Class: 6, Kind: api.Words},
		{Class: 6, Kind: api.Bytes},
		{Class: 6, Kind: 3},
		{Class: 8, Kind: api.Words},
		{Class: 1<<32 + 6, Kind: api.Words},
		{Class: 6, Kind: 1<<32 + api.Words},
		{Class: 6, Kind: api.Words, W: []int{3}},
		{Class: 6, Kind: api.Words, W: []int{1<<32 + 3}},
		{Class: 6, Kind: api.Words, W: []int{3, 8}},
		{Class: 6, Kind: api.Words, W: []int{8, 3}},
		{Class: 6, Kind: api.Words, W: []int{3, 10}},
		{Class: 6, Kind: api.Words, W: []int{3, 8, 3}},
		{Class: 6, Kind: api.Words, B: []byte{3}},
		{Class: 6, Kind: api.Words, W: []int{3}, B: []byte{3}},
		{Class: 6, Kind: api.Bytes, W: []int{3}},
		{Class: 6, Kind: api.Bytes, W: []int{3}, B: []byte{3}},
		{Class: 6, Kind: api.Bytes, W: []int{3}, B: []byte{4}},
		{Class: 6, Kind: api.Bytes, W: []int{4}, B: []byte{3}},
		{Class: 6, Kind: api.Bytes, B: []byte{3}},
		{Class: 8, Kind: api.Bytes, B: []byte{3}},
		{Class: 6, Kind: api.Bytes, B: []byte{4}},
		{Class: 6, Kind: api.Bytes, B: []byte{3, 4}},
		{Class: 6, Kind: api.Bytes, B: []byte{4, 3}},
		{Class: 6, Kind: 3, W: []int{3}},
		{Class: 6, Kind: 3, B: []byte{3}},
		{Class: 6, Kind: api.Words, W: many(api.MaxWords)},
		{Class: 6, Kind: api.Words, W: many(api.MaxWords + 1)},
		{Class: 6, Kind: api.Bytes, B: some(api.MaxWords)},
		{Class: 6, Kind: api.Bytes, B: some(api.MaxWords + 1)},
	}
}

// TestSameAndCopy: an object is the same as itself and as its copy, valid or not, and as none that differs.
func TestSameAndCopy(t *testing.T) {
	l, others := alike(), alike()
	for i, a := range l {
		c := wide.Copy(a)
		if !equal(c, a) || !wide.Same(a, a) || !wide.Same(a, c) || !wide.Same(c, a) {
			t.Errorf("Copy(%v) = %v", a, c)
		}
		for j, b := range others {
			if wide.Same(a, b) != (i == j) {
				t.Errorf("Same(%v, %v) = %t", a, b, i != j)
			}
		}
	}
}

// spoil changes all that a list holds, and all that it could be made to hold where it lies.
func spoil[E any](l []E, v E) {
	l = l[:cap(l)]
	for i := range l {
		l[i] = v
	}
}

// TestNewMemory: what was handed in or out, and is changed then, changes nothing in the other.
func TestNewMemory(t *testing.T) {
	for _, o := range samples() {
		o.W, o.B = append(make([]int, 0, len(o.W)+3), o.W...), append(make([]byte, 0, len(o.B)+3), o.B...)
		want := api.Obj{Class: o.Class, Kind: o.Kind, W: slices.Clone(o.W), B: slices.Clone(o.B)}
		c, d := wide.Copy(o), wide.Copy(o)
		x, _ := wide.Encode(o)
		y, _ := wide.Encode(o)
		p, _ := wide.Decode(x)
		q, _ := wide.Decode(x)
		k, l := wide.Refs(o), wide.Refs(o)
		refs := slices.Clone(l)

		spoil(c.W, 9)
		spoil(c.B, 9)
		spoil(p.W, 9)
		spoil(p.B, 9)
		spoil(k, 9)
		if !equal(o, want) || !equal(d, want) || !equal(q, want) || !slices.Equal(l, refs) || !bytes.Equal(x, encoded(want)) {
			t.Fatal("results changed", o, d, q, l, x)
		}
		spoil(x, 99)
		if !equal(o, want) || !equal(q, want) || !bytes.Equal(y, encoded(want)) {
			t.Fatal("an encoding changed", o, q, y)
		}
		spoil(o.W, 11)
		spoil(o.B, 11)
		if !equal(d, want) || !equal(q, want) || !bytes.Equal(y, encoded(want)) || !slices.Equal(l, refs) {
			t.Fatal("an argument changed", d, q, y, l)
		}
	}
}

// TestSpareCapacity: what lies behind a list that is handed in is neither read nor written.
func TestSpareCapacity(t *testing.T) {
	whole := []int{3, 8, 0, 0}
	some := []byte{1, 2, 3, 4}
	o := api.Obj{Class: 6, Kind: api.Words, W: whole[:2], B: some[:0]}
	checked(t, o)
	wide.Copy(o)
	wide.Refs(o)
	checked(t, api.Obj{Class: 6, Kind: api.Bytes, W: whole[:0], B: some[:2]})
	b := append(encoded(o), 7, 7, 7, 7)
	decoded(t, b[:20])
	if !slices.Equal(whole, []int{3, 8, 0, 0}) || !bytes.Equal(some, []byte{1, 2, 3, 4}) || !bytes.Equal(b[20:], []byte{7, 7, 7, 7}) {
		t.Error(whole, some, b)
	}
}

func FuzzDecode(f *testing.F) {
	for _, o := range samples() {
		f.Add(encoded(o))
	}
	f.Fuzz(decoded)
}
