package code_test

import (
	"bytes"
	"math"
	"math/rand"
	"slices"
	"testing"

	"webster/api"
	"webster/code"
)

// The model: the document's table line by line, with an entry a first byte, and everything else by trying.

// line is how the document tells the instructions that begin with one byte.
type line struct {
	size int                   // how many bytes they have
	tell func(n, m int) [3]int // their Kind, N and M
}

// of returns a line of one byte.
func of(kind, n, m int) line {
	return line{1, func(int, int) [3]int { return [3]int{kind, n, m} }}
}

// parted returns a line of two bytes, of which the second one tells by n / 64 which of the kinds it is.
func parted(kinds ...int) line {
	return line{2, func(n, m int) [3]int {
		if kinds[n/64] == api.Bad {
			return [3]int{}
		}
		return [3]int{kinds[n/64], n % 64, 0}
	}}
}

// sent returns the lines of two bytes and of three of a kind.
func sent(kind int) (line, line) {
	return line{2, func(n, m int) [3]int { return [3]int{kind, n % 32, n / 32} }},
		line{3, func(n, m int) [3]int { return [3]int{kind, m, n} }}
}

// led returns a line of two bytes of a jump.
func led(kind, high int) line {
	return line{2, func(n, m int) [3]int { return [3]int{kind, 256*high + n, 0} }}
}

// lines are those of the table, by first bytes; what stays empty is Bad.
func lines() [256]line {
	var l [256]line
	for c := range l {
		l[c] = of(api.Bad, 0, 0)
	}
	fill := func(from, to, kind, least, m int) {
		for c := from; c <= to; c++ {
			l[c] = of(kind, least+c-from, m)
		}
	}
	fill(0, 15, api.PushField, 0, 0)
	fill(16, 31, api.PushTemp, 0, 0)
	fill(32, 63, api.PushLit, 0, 0)
	fill(64, 95, api.PushVar, 0, 0)
	fill(96, 103, api.PopField, 0, 0)
	fill(104, 111, api.PopTemp, 0, 0)
	fill(112, 112, api.PushSelf, 0, 0)
	for i, n := range []int{4, 6, 2, -1, 1, 3, 5} {
		l[113+i] = of(api.PushOop, n, 0)
	}
	fill(120, 120, api.ReturnSelf, 0, 0)
	for i, n := range []int{4, 6, 2} {
		l[121+i] = of(api.ReturnOop, n, 0)
	}
	fill(124, 124, api.ReturnTop, 0, 0)
	fill(125, 125, api.ReturnBlock, 0, 0)
	l[128] = parted(api.PushField, api.PushTemp, api.PushLit, api.PushVar)
	l[129] = parted(api.StoreField, api.StoreTemp, api.Bad, api.StoreVar)
	l[130] = parted(api.PopField, api.PopTemp, api.Bad, api.PopVar)
	l[131], l[132] = sent(api.Send)
	l[133], l[134] = sent(api.Super)
	fill(135, 135, api.Pop, 0, 0)
	fill(136, 136, api.Dup, 0, 0)
	fill(137, 137, api.PushFrame, 0, 0)
	fill(144, 151, api.Jump, 1, 0)
	fill(152, 159, api.JumpFalse, 1, 0)
	for i := range 8 {
		l[160+i] = led(api.Jump, i-4)
	}
	for i := range 4 {
		l[168+i] = led(api.JumpTrue, i)
		l[172+i] = led(api.JumpFalse, i)
	}
	fill(176, 191, api.Arith, 0, 0)
	fill(192, 207, api.Special, 0, 0)
	fill(208, 223, api.Send, 0, 0)
	fill(224, 239, api.Send, 0, 1)
	fill(240, 255, api.Send, 0, 2)
	return l
}

// model tells what the package must answer.
type model struct {
	lines    [256]line
	shortest map[[3]int][]byte // the encoding of each instruction, by its Kind, N and M
}

func modelled() *model {
	p := &model{lines: lines(), shortest: map[[3]int][]byte{}}
	add := func(b ...byte) {
		if o, e := p.at(b, 0); e == api.OK && o.Len == len(b) && o.Kind != api.Bad {
			if k := bare(o); p.shortest[k] == nil {
				p.shortest[k] = b
			}
		}
	}
	// In the order of the document: the shortest ones first, of these those with the smallest bytes.
	for c := range 256 {
		add(byte(c))
	}
	for c := range 256 {
		for n := range 256 {
			add(byte(c), byte(n))
		}
	}
	for c := range 256 {
		if p.lines[c].size == 3 {
			for n := range 65536 {
				add(byte(c), byte(n/256), byte(n%256))
			}
		}
	}
	return p
}

// bare is an instruction without its Len.
func bare(o api.Op) [3]int { return [3]int{o.Kind, o.N, o.M} }

func (p *model) at(b []byte, at int) (api.Op, api.Errno) {
	if at < 0 || at >= len(b) {
		return api.Op{}, api.ErrNone
	}
	l := p.lines[b[at]]
	if at+l.size > len(b) {
		return api.Op{}, api.ErrForm
	}
	n, m := 0, 0
	if l.size > 1 {
		n = int(b[at+1])
	}
	if l.size > 2 {
		m = int(b[at+2])
	}
	o := l.tell(n, m)
	return api.Op{Kind: o[0], N: o[1], M: o[2], Len: l.size}, api.OK
}

func (p *model) bytes(l []api.Op) ([]byte, api.Errno) {
	var out []byte
	for _, o := range l {
		b := p.shortest[bare(o)]
		if b == nil {
			return nil, api.ErrArg
		}
		out = append(out, b...)
	}
	return out, api.OK
}

func (p *model) all(b []byte) ([]api.Op, api.Errno) {
	if len(b) == 0 {
		return nil, api.OK
	}
	o, e := p.at(b, 0)
	if e != api.OK {
		return nil, e
	}
	l, e := p.all(b[o.Len:])
	if e != api.OK {
		return nil, e
	}
	return append([]api.Op{o}, l...), api.OK
}

// jumps goes through b anew for each place that is led to.
func (p *model) jumps(b []byte) bool {
	l, e := p.all(b)
	if e != api.OK {
		return false
	}
	begins := func(to int) bool {
		at := 0
		for _, o := range l {
			if at == to {
				return true
			}
			at += o.Len
		}
		return at == to
	}
	at := 0
	for _, o := range l {
		at += o.Len
		jump := o.Kind == api.Jump || o.Kind == api.JumpTrue || o.Kind == api.JumpFalse
		if o.Kind == api.Bad || jump && !begins(at+o.N) {
			return false
		}
	}
	return true
}

// held is a test beside the model that tells what the package must answer.
type held struct {
	*testing.T
	*model
}

func hold(t *testing.T) held { return held{t, modelled()} }

// decoded holds At at one offset against the model.
func (h held) decoded(b []byte, at int) {
	h.Helper()
	o, e := code.At(b, at)
	if want, f := h.at(b, at); o != want || e != f {
		h.Fatal("At", b, at, o, e, "want", want, f)
	}
}

// encoded holds Bytes against the model, and All of what it returns against l.
func (h held) encoded(l ...api.Op) {
	h.Helper()
	b, e := code.Bytes(l...)
	if want, f := h.bytes(l); !bytes.Equal(b, want) || e != f {
		h.Fatal("Bytes", l, b, e, "want", want, f)
	}
	if e != api.OK {
		return
	}
	back, e := code.All(b)
	if e != api.OK || !slices.EqualFunc(back, l, func(a, b api.Op) bool { return bare(a) == bare(b) }) {
		h.Fatal("All", b, back, e, "want", l)
	}
}

// passed holds All and Jumps of b against the model, and At at each offset of b and around it.
func (h held) passed(b []byte) {
	h.Helper()
	was := bytes.Clone(b)
	l, e := code.All(b)
	if want, f := h.all(b); !slices.Equal(l, want) || e != f {
		h.Fatal("All", b, l, e, "want", want, f)
	}
	h.checked(b)
	for at := -1; at <= len(b)+1; at++ {
		h.decoded(b, at)
	}
	if !bytes.Equal(b, was) {
		h.Fatal("changed", was, "to", b)
	}
}

// checked holds Jumps of b against the model, and returns what both are.
func (h held) checked(b []byte) bool {
	h.Helper()
	ok := code.Jumps(b)
	if want := h.jumps(b); ok != want {
		h.Fatal("Jumps", b, ok, "want", want)
	}
	return ok
}

// ends are numbers near those at which some instruction ends, near the ends of int, and such that end on the bits of a smaller one.
func ends() []int {
	var l []int
	for _, n := range []int{0, 8, 16, 32, 48, 64, 128, 192, 256, 512, 1024, 2048, 1 << 16, 1 << 31, 1 << 32, 1 << 40, 1 << 62} {
		for d := -4; d <= 7; d++ {
			l = append(l, n+d, d-n)
		}
	}
	return append(l, math.MaxInt, math.MaxInt-1, math.MinInt, math.MinInt+1, math.MinInt+2)
}

// some are first bytes: one at least of each kind, and the ends of the ranges.
func some() []byte {
	return []byte{
		0, 15, 16, 31, 32, 63, 64, 95, 96, 103, 104, 111, 112, 113, 115, 116, 119, 120, 121, 123, 124, 125, 126, 127,
		128, 129, 130, 131, 132, 133, 134, 135, 136, 137, 138, 143, 144, 145, 146, 151, 152, 153, 154, 159,
		160, 163, 164, 167, 168, 171, 172, 175, 176, 191, 192, 207, 208, 223, 224, 239, 240, 252, 253, 254, 255,
	}
}

func TestExamples(t *testing.T) {
	b := []byte{70, 128, 200}
	if o, e := code.At(b, 0); e != api.OK || o != (api.Op{Kind: api.PushVar, N: 6, Len: 1}) {
		t.Error(o, e)
	}
	if o, e := code.At(b, 1); e != api.OK || o != (api.Op{Kind: api.PushVar, N: 8, Len: 2}) {
		t.Error(o, e)
	}
	for _, c := range []struct {
		n int
		b []byte
	}{{6, []byte{70}}, {40, []byte{128, 232}}} {
		if b, e := code.Bytes(api.Op{Kind: api.PushVar, N: c.n}); e != api.OK || !bytes.Equal(b, c.b) {
			t.Error(c.n, b, e)
		}
	}
}

// TestTable: lines of the table, written out one by one: the ends of each range, and what is Bad.
func TestTable(t *testing.T) {
	for _, c := range []struct {
		b    []byte
		k, n int
		m    int
	}{
		{[]byte{0}, api.PushField, 0, 0},
		{[]byte{15}, api.PushField, 15, 0},
		{[]byte{16}, api.PushTemp, 0, 0},
		{[]byte{31}, api.PushTemp, 15, 0},
		{[]byte{32}, api.PushLit, 0, 0},
		{[]byte{63}, api.PushLit, 31, 0},
		{[]byte{64}, api.PushVar, 0, 0},
		{[]byte{95}, api.PushVar, 31, 0},
		{[]byte{96}, api.PopField, 0, 0},
		{[]byte{103}, api.PopField, 7, 0},
		{[]byte{104}, api.PopTemp, 0, 0},
		{[]byte{111}, api.PopTemp, 7, 0},
		{[]byte{112}, api.PushSelf, 0, 0},
		{[]byte{113}, api.PushOop, api.True, 0},
		{[]byte{114}, api.PushOop, api.False, 0},
		{[]byte{115}, api.PushOop, api.Nil, 0},
		{[]byte{116}, api.PushOop, -1, 0},
		{[]byte{117}, api.PushOop, 1, 0},
		{[]byte{118}, api.PushOop, 3, 0},
		{[]byte{119}, api.PushOop, 5, 0},
		{[]byte{120}, api.ReturnSelf, 0, 0},
		{[]byte{121}, api.ReturnOop, api.True, 0},
		{[]byte{122}, api.ReturnOop, api.False, 0},
		{[]byte{123}, api.ReturnOop, api.Nil, 0},
		{[]byte{124}, api.ReturnTop, 0, 0},
		{[]byte{125}, api.ReturnBlock, 0, 0},
		{[]byte{126}, api.Bad, 0, 0},
		{[]byte{127}, api.Bad, 0, 0},
		{[]byte{128, 0}, api.PushField, 0, 0},
		{[]byte{128, 63}, api.PushField, 63, 0},
		{[]byte{128, 64}, api.PushTemp, 0, 0},
		{[]byte{128, 191}, api.PushLit, 63, 0},
		{[]byte{128, 255}, api.PushVar, 63, 0},
		{[]byte{129, 63}, api.StoreField, 63, 0},
		{[]byte{129, 64}, api.StoreTemp, 0, 0},
		{[]byte{129, 128}, api.Bad, 0, 0},
		{[]byte{129, 191}, api.Bad, 0, 0},
		{[]byte{129, 192}, api.StoreVar, 0, 0},
		{[]byte{130, 0}, api.PopField, 0, 0},
		{[]byte{130, 127}, api.PopTemp, 63, 0},
		{[]byte{130, 129}, api.Bad, 0, 0},
		{[]byte{130, 255}, api.PopVar, 63, 0},
		{[]byte{131, 31}, api.Send, 31, 0},
		{[]byte{131, 255}, api.Send, 31, 7},
		{[]byte{132, 7, 200}, api.Send, 200, 7},
		{[]byte{132, 255, 0}, api.Send, 0, 255},
		{[]byte{133, 33}, api.Super, 1, 1},
		{[]byte{134, 200, 7}, api.Super, 7, 200},
		{[]byte{135}, api.Pop, 0, 0},
		{[]byte{136}, api.Dup, 0, 0},
		{[]byte{137}, api.PushFrame, 0, 0},
		{[]byte{138}, api.Bad, 0, 0},
		{[]byte{143}, api.Bad, 0, 0},
		{[]byte{144}, api.Jump, 1, 0},
		{[]byte{151}, api.Jump, 8, 0},
		{[]byte{152}, api.JumpFalse, 1, 0},
		{[]byte{159}, api.JumpFalse, 8, 0},
		{[]byte{160, 0}, api.Jump, -1024, 0},
		{[]byte{163, 255}, api.Jump, -1, 0},
		{[]byte{164, 0}, api.Jump, 0, 0},
		{[]byte{167, 255}, api.Jump, 1023, 0},
		{[]byte{168, 0}, api.JumpTrue, 0, 0},
		{[]byte{171, 255}, api.JumpTrue, 1023, 0},
		{[]byte{172, 0}, api.JumpFalse, 0, 0},
		{[]byte{175, 255}, api.JumpFalse, 1023, 0},
		{[]byte{176}, api.Arith, 0, 0},
		{[]byte{191}, api.Arith, 15, 0},
		{[]byte{192}, api.Special, 0, 0},
		{[]byte{207}, api.Special, 15, 0},
		{[]byte{208}, api.Send, 0, 0},
		{[]byte{223}, api.Send, 15, 0},
		{[]byte{224}, api.Send, 0, 1},
		{[]byte{239}, api.Send, 15, 1},
		{[]byte{240}, api.Send, 0, 2},
		{[]byte{255}, api.Send, 15, 2},
	} {
		want := api.Op{Kind: c.k, N: c.n, M: c.m, Len: len(c.b)}
		for _, b := range [][]byte{c.b, append(slices.Clone(c.b), 255, 129)} {
			if o, e := code.At(b, 0); o != want || e != api.OK {
				t.Errorf("At(%v) = %v, %d; want %v", b, o, e, want)
			}
		}
		for n := 1; n < len(c.b); n++ {
			if o, e := code.At(c.b[:n], 0); o != (api.Op{}) || e != api.ErrForm {
				t.Errorf("At(%v) = %v, %d; want ErrForm", c.b[:n], o, e)
			}
		}
	}
}

// TestEveryPair: each first byte with each second one, alone, cut, and with others behind and ahead.
func TestEveryPair(t *testing.T) {
	h := hold(t)
	for c := range 256 {
		h.passed([]byte{byte(c)})
		for n := range 256 {
			h.passed([]byte{byte(c), byte(n)})
			for _, m := range []byte{0, 1, 31, 32, 127, 128, 135, 255} {
				h.decoded([]byte{byte(c), byte(n), m}, 0)
				h.decoded([]byte{m, byte(c), byte(n), m, 0}, 1)
			}
		}
	}
}

// TestEveryTriple: each second byte with each third one behind the first bytes of three.
func TestEveryTriple(t *testing.T) {
	h := hold(t)
	for _, c := range []byte{132, 134} {
		for n := range 256 {
			for m := range 256 {
				h.decoded([]byte{c, byte(n), byte(m)}, 0)
				h.decoded([]byte{c, c, byte(n), byte(m)}, 1)
			}
		}
	}
}

// TestOffsets: offsets that b does not have; bytes behind its length, which are missing, though there is capacity.
func TestOffsets(t *testing.T) {
	h := hold(t)
	for _, b := range [][]byte{nil, {}, {112}, {128, 1}, {134, 1, 2}, {112, 128}, {0, 0, 0, 132, 1}} {
		for _, at := range append(ends(), len(b)-1, len(b), len(b)+1) {
			h.decoded(b, at)
			if o, e := code.At(b, at); (at < 0 || at >= len(b)) && (o != (api.Op{}) || e != api.ErrNone) {
				t.Error(b, at, o, e)
			}
		}
	}
	b := []byte{132, 1, 2}
	for n := range len(b) {
		h.passed(b[:n])
	}
	if o, e := code.At(b[:0], 0); o != (api.Op{}) || e != api.ErrNone {
		t.Error(o, e)
	}
	if l, e := code.All(b[:2]); len(l) != 0 || e != api.ErrForm || code.Jumps(b[:2]) {
		t.Error(l, e)
	}
}

// TestEveryInstruction: whatever some bytes tell is written, in the shortest way, whatever its Len says.
func TestEveryInstruction(t *testing.T) {
	h := hold(t)
	kinds := map[int]int{}
	for k, b := range h.shortest {
		kinds[k[0]]++
		o := api.Op{Kind: k[0], N: k[1], M: k[2], Len: len(b)}
		h.encoded(o)
		if back, e := code.At(b, 0); back != o || e != api.OK {
			t.Fatal(b, back, e, "want", o)
		}
	}
	want := map[int]int{
		api.PushField: 64, api.PushTemp: 64, api.PushLit: 64, api.PushVar: 64,
		api.StoreField: 64, api.StoreTemp: 64, api.StoreVar: 64, api.PopField: 64, api.PopTemp: 64, api.PopVar: 64,
		api.PushSelf: 1, api.PushOop: 7, api.ReturnSelf: 1, api.ReturnOop: 3, api.ReturnTop: 1, api.ReturnBlock: 1,
		api.Send: 65536, api.Super: 65536, api.Pop: 1, api.Dup: 1, api.PushFrame: 1,
		api.Jump: 2048, api.JumpTrue: 1024, api.JumpFalse: 1024, api.Arith: 16, api.Special: 16,
	}
	for kind, n := range want {
		if kinds[kind] != n {
			t.Error(kind, kinds[kind], "want", n)
		}
	}
}

// TestShortest: encodings, written out, at the ends of what each size can hold.
func TestShortest(t *testing.T) {
	for _, c := range []struct {
		k, n, m int
		b       []byte
	}{
		{api.PushField, 15, 0, []byte{15}},
		{api.PushField, 16, 0, []byte{128, 16}},
		{api.PushField, 63, 0, []byte{128, 63}},
		{api.PushTemp, 15, 0, []byte{31}},
		{api.PushTemp, 16, 0, []byte{128, 80}},
		{api.PushLit, 31, 0, []byte{63}},
		{api.PushLit, 32, 0, []byte{128, 160}},
		{api.PushVar, 31, 0, []byte{95}},
		{api.PushVar, 32, 0, []byte{128, 224}},
		{api.StoreField, 0, 0, []byte{129, 0}},
		{api.StoreTemp, 1, 0, []byte{129, 65}},
		{api.StoreVar, 63, 0, []byte{129, 255}},
		{api.PopField, 7, 0, []byte{103}},
		{api.PopField, 8, 0, []byte{130, 8}},
		{api.PopTemp, 7, 0, []byte{111}},
		{api.PopTemp, 8, 0, []byte{130, 72}},
		{api.PopVar, 0, 0, []byte{130, 192}},
		{api.PushOop, 5, 0, []byte{119}},
		{api.ReturnOop, api.Nil, 0, []byte{123}},
		{api.Send, 15, 2, []byte{255}},
		{api.Send, 16, 0, []byte{131, 16}},
		{api.Send, 0, 3, []byte{131, 96}},
		{api.Send, 31, 7, []byte{131, 255}},
		{api.Send, 32, 7, []byte{132, 7, 32}},
		{api.Send, 31, 8, []byte{132, 8, 31}},
		{api.Send, 255, 255, []byte{132, 255, 255}},
		{api.Super, 0, 0, []byte{133, 0}},
		{api.Super, 31, 7, []byte{133, 255}},
		{api.Super, 32, 0, []byte{134, 0, 32}},
		{api.Super, 0, 8, []byte{134, 8, 0}},
		{api.Jump, 0, 0, []byte{164, 0}},
		{api.Jump, 1, 0, []byte{144}},
		{api.Jump, 8, 0, []byte{151}},
		{api.Jump, 9, 0, []byte{164, 9}},
		{api.Jump, -1, 0, []byte{163, 255}},
		{api.Jump, -1024, 0, []byte{160, 0}},
		{api.Jump, 1023, 0, []byte{167, 255}},
		{api.JumpTrue, 0, 0, []byte{168, 0}},
		{api.JumpTrue, 1, 0, []byte{168, 1}},
		{api.JumpTrue, 1023, 0, []byte{171, 255}},
		{api.JumpFalse, 0, 0, []byte{172, 0}},
		{api.JumpFalse, 8, 0, []byte{159}},
		{api.JumpFalse, 9, 0, []byte{172, 9}},
		{api.JumpFalse, 1023, 0, []byte{175, 255}},
		{api.Special, 15, 0, []byte{207}},
	} {
		for _, length := range []int{0, 1, 2, 3, len(c.b), -1, math.MaxInt, math.MinInt} {
			o := api.Op{Kind: c.k, N: c.n, M: c.m, Len: length}
			if b, e := code.Bytes(o); e != api.OK || !bytes.Equal(b, c.b) {
				t.Errorf("Bytes(%v) = %v, %d; want %v", o, b, e, c.b)
			}
		}
	}
}

// TestRefused: instructions that no bytes tell, and Bad, which is none.
func TestRefused(t *testing.T) {
	for _, o := range []api.Op{
		{},
		{Len: 1},
		{Kind: api.Bad, N: 126},
		{Kind: api.Bad, Len: 2},
		{Kind: -1},
		{Kind: 27},
		{Kind: 1<<32 + api.Pop},
		{Kind: math.MinInt + api.Pop},
		{Kind: api.PushField, N: -1},
		{Kind: api.PushTemp, N: 64},
		{Kind: api.PushLit, N: 1 << 32},
		{Kind: api.PushVar, N: 0, M: 1},
		{Kind: api.StoreField, N: 63, M: 1},
		{Kind: api.StoreTemp, N: 64},
		{Kind: api.StoreVar, N: 64},
		{Kind: api.PopField, N: -1},
		{Kind: api.PopVar, N: 64},
		{Kind: api.PushSelf, N: 1},
		{Kind: api.PushSelf, M: 1},
		{Kind: api.PushOop, N: 0},
		{Kind: api.PushOop, N: 7},
		{Kind: api.PushOop, N: -3},
		{Kind: api.PushOop, N: 8},
		{Kind: api.ReturnOop, N: 1},
		{Kind: api.ReturnOop, N: -1},
		{Kind: api.ReturnOop, N: 0},
		{Kind: api.ReturnBlock, M: 1},
		{Kind: api.Send, N: 256},
		{Kind: api.Send, M: 256},
		{Kind: api.Send, N: -1, M: 1},
		{Kind: api.Send, N: 16, M: -1},
		{Kind: api.Super, N: -1},
		{Kind: api.Super, N: 256, M: 255},
		{Kind: api.Super, N: 32, M: -1},
		{Kind: api.Pop, N: 1},
		{Kind: api.Jump, N: -1025},
		{Kind: api.Jump, N: 1024},
		{Kind: api.Jump, N: 1, M: 1},
		{Kind: api.JumpTrue, N: -1},
		{Kind: api.JumpTrue, N: 1024},
		{Kind: api.JumpFalse, N: -1},
		{Kind: api.JumpFalse, N: 1024},
		{Kind: api.Arith, N: 16},
		{Kind: api.Special, N: -1},
		{Kind: api.Special, N: 16},
		{Kind: api.Special, N: 15, M: 1},
	} {
		if b, e := code.Bytes(o); len(b) != 0 || e != api.ErrArg {
			t.Errorf("Bytes(%v) = %v, %d; want ErrArg", o, b, e)
		}
	}
}

// TestEveryNumber: instructions of all kinds, and of such that are none, with all numbers around those that may be.
func TestEveryNumber(t *testing.T) {
	h := hold(t)
	kinds := append(ends(), 27, 28)
	for kind := range api.Special + 1 {
		kinds = append(kinds, kind)
	}
	for _, kind := range kinds {
		for n := -1100; n <= 1100; n++ {
			h.encoded(api.Op{Kind: kind, N: n})
		}
		for _, n := range ends() {
			for _, m := range []int{0, 1, 2, 3, 7, 8, -1, -2, -8, 255, 256, 1 << 16, 1 << 32, -1 << 32, math.MaxInt, math.MinInt} {
				h.encoded(api.Op{Kind: kind, N: n, M: m})
			}
		}
		for _, m := range ends() {
			h.encoded(api.Op{Kind: kind, N: 0, M: m})
			h.encoded(api.Op{Kind: kind, N: -32 * m, M: m})
			h.encoded(api.Op{Kind: kind, N: -16 * m, M: m})
		}
	}
}

// TestSeveral: several instructions one behind the other; one that is refused, at each place among others, makes all of them so.
func TestSeveral(t *testing.T) {
	h := hold(t)
	h.encoded()
	l := []api.Op{{Kind: api.PushOop, N: 3}, {Kind: api.PushOop, N: 5}, {Kind: api.Send, N: 40, M: 1}, {Kind: api.JumpTrue, N: 300}, {Kind: api.ReturnTop}}
	for i := range len(l) + 1 {
		h.encoded(l[:i]...)
		for _, wrong := range []api.Op{{}, {Kind: 27}, {Kind: api.Pop, M: 1}} {
			m := slices.Insert(slices.Clone(l), i, wrong)
			if b, e := code.Bytes(m...); len(b) != 0 || e != api.ErrArg {
				t.Error(i, wrong, b, e)
			}
		}
	}
	if b, e := code.Bytes(l...); e != api.OK || !bytes.Equal(b, []byte{118, 119, 132, 1, 40, 169, 44, 124}) {
		t.Error(b, e)
	}
}

// TestAll: instructions one behind the other, Bad ones among them; the first byte that is missing makes all of them so.
func TestAll(t *testing.T) {
	for _, c := range []struct {
		b []byte
		l []api.Op
		e api.Errno
	}{
		{nil, nil, api.OK},
		{[]byte{}, nil, api.OK},
		{[]byte{118, 119, 176, 124}, []api.Op{{Kind: api.PushOop, N: 3, Len: 1}, {Kind: api.PushOop, N: 5, Len: 1}, {Kind: api.Arith, Len: 1}, {Kind: api.ReturnTop, Len: 1}}, api.OK},
		{[]byte{128, 0, 0}, []api.Op{{Kind: api.PushField, Len: 2}, {Kind: api.PushField, Len: 1}}, api.OK},
		{[]byte{127, 129, 128, 143, 134, 1, 2}, []api.Op{{Len: 1}, {Len: 2}, {Len: 1}, {Kind: api.Super, N: 2, M: 1, Len: 3}}, api.OK},
		{[]byte{135, 128}, nil, api.ErrForm},
		{[]byte{135, 132, 1}, nil, api.ErrForm},
		{[]byte{135, 129}, nil, api.ErrForm},
		{[]byte{175}, nil, api.ErrForm},
		{[]byte{127, 160}, nil, api.ErrForm},
	} {
		if l, e := code.All(c.b); !slices.Equal(l, c.l) || e != c.e {
			t.Errorf("All(%v) = %v, %d; want %v, %d", c.b, l, e, c.l, c.e)
		}
	}
}

// TestEveryShort: all bytes of a choice, three one behind the other, and four of a smaller one.
func TestEveryShort(t *testing.T) {
	h := hold(t)
	var few []byte
	for i, c := range some() {
		if i%3 == 0 || c >= 144 && c <= 175 {
			few = append(few, c)
		}
	}
	for _, c := range some() {
		for _, n := range some() {
			for _, m := range some() {
				h.passed([]byte{c, n, m})
			}
		}
	}
	for _, c := range few {
		for _, n := range few {
			for _, m := range few {
				for _, k := range few {
					h.checked([]byte{c, n, m, k})
				}
			}
		}
	}
}

// filled returns n bytes, all of them 135, with some others from at on.
func filled(n, at int, b ...byte) []byte {
	l := bytes.Repeat([]byte{135}, n)
	copy(l[at:], b)
	return l
}

// TestJumps: jumps of each kind to where something begins, to the end, into the middle of an instruction, and out of the bytes on both sides.
func TestJumps(t *testing.T) {
	h := hold(t)
	for _, c := range []struct {
		b  []byte
		ok bool
	}{
		{nil, true},
		{[]byte{}, true},
		{[]byte{120}, true},
		{[]byte{126}, false},
		{[]byte{129, 128}, false},
		{[]byte{120, 130, 191}, false},
		{[]byte{120, 143}, false},
		{[]byte{128}, false},
		{[]byte{120, 132, 1}, false},
		{[]byte{144, 120}, true},
		{[]byte{144}, false},
		{[]byte{145, 120}, false},
		{[]byte{145, 120, 120}, true},
		{[]byte{145, 120, 120, 120}, true},
		{[]byte{144, 128, 0}, false},
		{[]byte{145, 128, 0}, true},
		{[]byte{145, 134, 0, 0}, false},
		{[]byte{146, 134, 0, 0}, true},
		{[]byte{152, 120}, true},
		{[]byte{152}, false},
		{[]byte{153, 128, 0, 120}, true},
		{[]byte{152, 128, 0, 120}, false},
		{[]byte{164, 0}, true},
		{[]byte{168, 0}, true},
		{[]byte{172, 0}, true},
		{[]byte{164, 1}, false},
		{[]byte{168, 1}, false},
		{[]byte{172, 1}, false},
		{[]byte{163, 254}, true},
		{[]byte{163, 255}, false},
		{[]byte{163, 253}, false},
		{[]byte{120, 163, 253}, true},
		{[]byte{128, 0, 163, 253}, false},
		{[]byte{128, 0, 163, 252}, true},
		{[]byte{144, 126}, false},
		{[]byte{163, 254, 127}, false},
		{[]byte{144, 120, 144, 120}, true},
		{[]byte{144, 120, 144, 120, 145}, false},
		{[]byte{144, 120, 145, 120}, false},
		{filled(1025, 0, 167, 255), true},
		{filled(1024, 0, 167, 255), false},
		{filled(1025, 0, 171, 255), true},
		{filled(1024, 0, 171, 255), false},
		{filled(1025, 0, 175, 255), true},
		{filled(1024, 0, 175, 255), false},
		{filled(1025, 1024, 128), false},
		{filled(1026, 0, 167, 255), true},
		{append(filled(1024, 0, 167, 255), 128, 0), false},
		{append(filled(1022, 0), 160, 0), true},
		{append(filled(1021, 0), 160, 0), false},
		{append(filled(1022, 0, 128, 0), 160, 0), true},
		{append(filled(1023, 0, 128, 0), 160, 0), false},
		{append(filled(1024, 0, 128, 0), 160, 0), true},
	} {
		if ok := h.checked(c.b); ok != c.ok {
			t.Errorf("Jumps(%v) = %t; want %t", c.b, ok, c.ok)
		}
	}
}

// TestMemory: what is handed in is not changed, and what is handed out is new.
func TestMemory(t *testing.T) {
	b := []byte{118, 128, 40, 132, 1, 200, 144, 124}
	was := bytes.Clone(b)
	l, e := code.All(b)
	again, f := code.All(b)
	if e != api.OK || f != api.OK || !code.Jumps(b) || !bytes.Equal(b, was) {
		t.Fatal(b, e, f)
	}
	for i := range b {
		b[i] = 0
	}
	for i := range l {
		l[i] = api.Op{}
	}
	ops := slices.Clone(again)
	x, e := code.Bytes(ops...)
	y, f := code.Bytes(ops...)
	if e != api.OK || f != api.OK || !bytes.Equal(x, was) || !slices.Equal(ops, again) {
		t.Fatal(x, e, f, ops)
	}
	clear(x)
	x = append(x, 1, 2, 3)
	y = append(y, 4, 5, 6)
	x[len(was)] = 7
	if !bytes.Equal(y, append(was, 4, 5, 6)) || !slices.Equal(ops, again) {
		t.Error(x, y, ops)
	}
}

// TestLong: long bytes and lists of instructions by chance, held against the model.
func TestLong(t *testing.T) {
	h := hold(t)
	r := rand.New(rand.NewSource(1))
	var kinds [api.Special + 1][]api.Op
	for k, b := range h.shortest {
		kinds[k[0]] = append(kinds[k[0]], api.Op{Kind: k[0], N: k[1], M: k[2], Len: len(b)})
	}
	// A map has no order, and the work by chance is to be the same each time.
	for _, l := range kinds {
		slices.SortFunc(l, func(a, b api.Op) int { return 1000*(a.N-b.N) + a.M - b.M })
	}
	good := 0
	for range 3000 {
		var l []api.Op
		for range r.Intn(40) {
			some := kinds[1+r.Intn(api.Special)]
			l = append(l, some[r.Intn(len(some))])
		}
		h.encoded(l...)
		b, _ := code.Bytes(l...)
		h.passed(b)
		for range 3 {
			if len(b) > 0 {
				b[r.Intn(len(b))] = byte(r.Intn(256))
			}
			h.passed(b)
		}
	}
	for range 20000 {
		b := make([]byte, r.Intn(14))
		for i := range b {
			b[i] = some()[r.Intn(len(some()))]
			if r.Intn(2) == 0 {
				b[i] = byte(144 + r.Intn(16))
			}
		}
		h.passed(b)
		if code.Jumps(b) {
			good++
		}
	}
	if good < 1000 {
		t.Error("only", good, "of the bytes have jumps that lead somewhere")
	}
}

// TestRewritten: what was read, if it has nothing Bad, is written as bytes that are read as the same, and are not more; these are written as themselves.
func TestRewritten(t *testing.T) {
	r := rand.New(rand.NewSource(2))
	for range 20000 {
		b := make([]byte, r.Intn(20))
		for i := range b {
			b[i] = byte(r.Intn(256))
		}
		l, e := code.All(b)
		bad := slices.ContainsFunc(l, func(o api.Op) bool { return o.Kind == api.Bad })
		if e != api.OK {
			continue
		}
		c, e := code.Bytes(l...)
		if bad != (e == api.ErrArg) || len(c) > len(b) {
			t.Fatal(b, c, e)
		}
		if bad {
			continue
		}
		m, e := code.All(c)
		d, f := code.Bytes(m...)
		same := slices.EqualFunc(l, m, func(a, b api.Op) bool { return bare(a) == bare(b) })
		if e != api.OK || f != api.OK || !same || !bytes.Equal(c, d) {
			t.Fatal(b, c, d, e, f)
		}
	}
}

// TestMany: a long list is written and read, and a jump in each place is checked.
func TestMany(t *testing.T) {
	const n = 200000
	l := make([]api.Op, n)
	for i := range l {
		l[i] = api.Op{Kind: api.Jump, N: 2 * (i%500 - 250), Len: 2}
		if i < 600 || i > n-600 || l[i].N >= 1 && l[i].N <= 8 {
			l[i].N = 0
		}
	}
	b, e := code.Bytes(l...)
	if e != api.OK || len(b) != 2*n || !code.Jumps(b) {
		t.Fatal(e, len(b))
	}
	if m, e := code.All(b); e != api.OK || !slices.Equal(m, l) {
		t.Error(e)
	}
	b[2*n-1] = 1
	if code.Jumps(b) {
		t.Error("a jump behind the end")
	}
	if m, e := code.All(b[:2*n-1]); len(m) != 0 || e != api.ErrForm {
		t.Error(len(m), e)
	}
}
