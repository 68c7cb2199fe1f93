package large_test

import (
	"bytes"
	"fmt"
	"math"
	"math/big"
	"math/rand"
	"slices"
	"strings"
	"testing"

	"webster/api"
	"webster/large"
)

// The model: the numbers of math/big.

// number is what b is, whether or not it is right.
func number(b []byte) *big.Int {
	up := bytes.Clone(b)
	slices.Reverse(up)
	return new(big.Int).SetBytes(up)
}

// digits are the bytes of n.
func digits(n *big.Int) []byte {
	b := n.Bytes()
	slices.Reverse(b)
	return b
}

// power is 2 to the exponent n, and d more.
func power(n int, d int64) []byte {
	p := new(big.Int).Lsh(big.NewInt(1), uint(n))
	return digits(p.Add(p, big.NewInt(d)))
}

// ten is 10 to the exponent n, and d more.
func ten(n int, d int64) *big.Int {
	p := new(big.Int).Exp(big.NewInt(10), big.NewInt(int64(n)), nil)
	return p.Add(p, big.NewInt(d))
}

// right is what Right must answer.
func right(b []byte) bool {
	return len(b) == 0 || len(b) < 401 && b[len(b)-1] > 0
}

// full are n bytes, all of them 255.
func full(n int) []byte { return bytes.Repeat([]byte{255}, n) }

// wrong are bytes that are no number.
func wrong() [][]byte {
	return [][]byte{{0}, {0, 0}, {1, 0}, {255, 255, 0}, make([]byte, 400), make([]byte, 401), full(401), append(full(399), 0), append(full(400), 0), append(make([]byte, 400), 1)}
}

// some are numbers: small ones, such of each length around those where something ends, with many zeros, many times 255, and by chance.
func some() [][]byte {
	l := [][]byte{nil, {1}, {2}, {7}, {127}, {128}, {254}, {255}}
	for _, n := range []int{1, 2, 3, 4, 5, 6, 7, 8, 9, 12, 13, 16, 17, 31, 100, 199, 200, 201, 399} {
		for d := range int64(3) {
			l = append(l, power(8*n, d-1))
		}
		l = append(l, power(8*n-1, 0), power(8*n-1, -1), full(n))
	}
	l = append(l, full(400), power(3199, 0), power(3200, -1), power(3192, 0))
	r := rand.New(rand.NewSource(3))
	for _, n := range []int{2, 3, 5, 6, 7, 8, 50, 200, 400} {
		l = append(l, chance(r, n))
	}
	return l
}

// chance is a number of n bytes, in which zeros and 255 are frequent.
func chance(r *rand.Rand, n int) []byte {
	b := make([]byte, n)
	kind := r.Intn(4)
	for i := range b {
		switch x := r.Intn(4); {
		case kind == 0 || x == 0:
			b[i] = byte(r.Intn(256))
		case x < kind:
			b[i] = 255
		}
	}
	for n > 0 && b[n-1] == 0 {
		b[n-1] = byte(r.Intn(256))
	}
	return b
}

// held is a test that holds each call against the model.
type held struct{ *testing.T }

// told holds the number and the error that a call answered against what they must be: n, if every argument is right and n neither negative nor too great.
func (h held) told(what string, b []byte, e api.Errno, n *big.Int, args ...[]byte) {
	h.Helper()
	want := api.OK
	switch {
	case slices.ContainsFunc(args, func(b []byte) bool { return !right(b) }):
		want = api.ErrArg
	case n.Sign() < 0:
		want = api.ErrNone
	case n.BitLen() > 3200:
		want = api.ErrFull
	}
	if e != want || want != api.OK && len(b) > 0 || want == api.OK && !bytes.Equal(b, digits(n)) {
		h.Fatal(what, args, "=", b, e, "want", want, n)
	}
}

// added holds Add against the model.
func (h held) added(a []byte, l ...[]byte) {
	h.Helper()
	sum := number(a)
	for _, b := range l {
		sum.Add(sum, number(b))
	}
	b, e := large.Add(a, l...)
	h.told("Add", b, e, sum, append([][]byte{a}, l...)...)
}

// pair holds each call of two numbers against the model.
func (h held) pair(a, b []byte) {
	h.Helper()
	x, y := number(a), number(b)
	if c := large.Cmp(a, b); c != x.Cmp(y) {
		h.Fatal("Cmp", a, b, c)
	}
	h.added(a, b)
	d, e := large.Sub(a, b)
	h.told("Sub", d, e, new(big.Int).Sub(x, y), a, b)
	p, e := large.Mul(a, b)
	h.told("Mul", p, e, new(big.Int).Mul(x, y), a, b)
	h.divided(a, b)
}

// divided holds Div against the model.
func (h held) divided(a, b []byte) {
	h.Helper()
	q, r, e := large.Div(a, b)
	x, y := number(a), number(b)
	if right(a) && right(b) && y.Sign() == 0 {
		if len(q) > 0 || len(r) > 0 || e != api.ErrNone {
			h.Fatal("Div", a, b, q, r, e, "want ErrNone")
		}
		return
	}
	if !right(a) || !right(b) {
		y = big.NewInt(1)
	}
	quotient, rest := new(big.Int).QuoRem(x, y, new(big.Int))
	h.told("Div", q, e, quotient, a, b)
	h.told("Div", r, e, rest, a, b)
}

// one holds each call of one number against the model, and Read and Of of what they answer.
func (h held) one(b []byte) {
	h.Helper()
	n := number(b)
	if large.Right(b) != right(b) {
		h.Fatal("Right", b)
	}
	h.added(b)
	k, ok := large.Int(b)
	if want := right(b) && n.IsInt64(); ok != want || want && int64(k) != n.Int64() || !want && k != 0 {
		h.Fatal("Int", b, k, ok)
	}
	if ok {
		back, e := large.Of(k)
		h.told("Of", back, e, n, b)
	}
	s := large.Text(b)
	if !right(b) {
		if s != "" {
			h.Fatal("Text", b, s)
		}
		return
	}
	if s != n.String() {
		h.Fatal("Text", b, s)
	}
	h.read(s)
}

// read holds Read against the model, and Text of what it answers.
func (h held) read(s string) {
	h.Helper()
	b, e := large.Read(s)
	n, ok := new(big.Int).SetString(s, 10)
	// The model takes signs, zeros ahead and underlines, too, but it doesn't write them.
	if !ok || n.String() != s || n.Sign() < 0 {
		if len(b) > 0 || e != api.ErrForm {
			h.Fatalf("Read %q %v %d want ErrForm", s, b, e)
		}
		return
	}
	h.told("Read "+s, b, e, n)
	if back := large.Text(b); e == api.OK && back != s {
		h.Fatal("Text", b, back, "want", s)
	}
}

func TestExamples(t *testing.T) {
	if b, e := large.Of(258); !bytes.Equal(b, []byte{2, 1}) || e != api.OK {
		t.Error(b, e)
	}
	if b, e := large.Mul([]byte{255}, []byte{255}); !bytes.Equal(b, []byte{1, 254}) || e != api.OK {
		t.Error(b, e)
	}
	if q, r, e := large.Div([]byte{232, 3}, []byte{7}); !bytes.Equal(q, []byte{142}) || !bytes.Equal(r, []byte{6}) || e != api.OK {
		t.Error(q, r, e)
	}
}

// TestRight: each number of bytes around the greatest one, with a zero at the end, and without; 0, which has no bytes.
func TestRight(t *testing.T) {
	for _, b := range [][]byte{nil, {}} {
		if !large.Right(b) {
			t.Error(b)
		}
	}
	for n := 1; n < 1000; n++ {
		for _, last := range []byte{0, 1, 128, 255} {
			for _, rest := range []byte{0, 1, 255} {
				b := bytes.Repeat([]byte{rest}, n)
				b[n-1] = last
				if large.Right(b) != (last != 0 && n <= 400) {
					t.Error(n, last, rest)
				}
			}
		}
	}
	for _, b := range wrong() {
		if large.Right(b) {
			t.Error(b)
		}
	}
}

// TestOfInt: the numbers around each power of two, and the negative ones; more than an int has room for.
func TestOfInt(t *testing.T) {
	h := held{t}
	for n := range 63 {
		for d := -2; d <= 2; d++ {
			k := 1<<n + d
			b, e := large.Of(k)
			if k < 0 {
				if len(b) > 0 || e != api.ErrArg {
					t.Error(k, b, e)
				}
				continue
			}
			h.told("Of", b, e, big.NewInt(int64(k)))
			if back, ok := large.Int(b); back != k || !ok {
				t.Error(k, back, ok)
			}
		}
		if b, e := large.Of(-1 << n); len(b) > 0 || e != api.ErrArg {
			t.Error(n, b, e)
		}
	}
	for _, k := range []int{-1, -255, -256, math.MinInt, math.MinInt + 1} {
		if b, e := large.Of(k); len(b) > 0 || e != api.ErrArg {
			t.Error(k, b, e)
		}
	}
	for _, k := range []int{0, 1, 255, 256, 65535, math.MaxInt - 1, math.MaxInt} {
		b, e := large.Of(k)
		h.told("Of", b, e, big.NewInt(int64(k)))
	}
	for n := range 80 {
		for d := -2; d <= 2; d++ {
			if k := power(8*n, int64(d)); n > 0 || d >= 0 {
				h.one(k)
			}
		}
	}
	for _, n := range []int{62, 63, 64, 71, 72, 3199} {
		h.one(power(n, 0))
		h.one(power(n, -1))
		h.one(power(n, 1))
	}
	for _, b := range wrong() {
		if k, ok := large.Int(b); k != 0 || ok {
			t.Error(b, k, ok)
		}
	}
}

// TestEverySmall: all numbers of two bytes alone, and pairs of smaller ones, held against int.
func TestEverySmall(t *testing.T) {
	h := held{t}
	of := func(n int) []byte {
		b, e := large.Of(n)
		if e != api.OK {
			t.Fatal(n, e)
		}
		return b
	}
	for n := range 1<<16 + 300 {
		b := of(n)
		if s := large.Text(b); s != fmt.Sprint(n) {
			t.Fatal(n, s)
		}
		if back, e := large.Read(fmt.Sprint(n)); !bytes.Equal(b, back) || e != api.OK {
			t.Fatal(n, back, e)
		}
		for _, d := range []int{1, 7, 10, 255, 256, 257, 65535} {
			q, r, e := large.Div(b, of(d))
			if !bytes.Equal(q, of(n/d)) || !bytes.Equal(r, of(n%d)) || e != api.OK {
				t.Fatal(n, d, q, r, e)
			}
		}
	}
	for a := range 300 {
		h.one(of(a))
		for b := range 300 {
			h.pair(of(a), of(b))
		}
	}
}

// TestEveryShort: all pairs of bytes of a choice, up to four, right ones and others.
func TestEveryShort(t *testing.T) {
	h := held{t}
	all := [][]byte{nil}
	for from, n := 0, 1; n <= 4; n++ {
		to := len(all)
		for _, b := range all[from:to] {
			for _, d := range []byte{0, 1, 128, 255} {
				all = append(all, append(bytes.Clone(b), d))
			}
		}
		from = to
	}
	if len(all) != 1+4+16+64+256 {
		t.Fatal(len(all))
	}
	for _, a := range all {
		h.one(a)
		for _, b := range all {
			h.pair(a, b)
		}
	}
}

// TestSome: all pairs of numbers of many lengths.
func TestSome(t *testing.T) {
	h := held{t}
	for _, a := range some() {
		h.one(a)
		for _, b := range some() {
			h.pair(a, b)
		}
	}
}

// TestWrong: what is no number is refused ahead of anything else, at each place.
func TestWrong(t *testing.T) {
	h := held{t}
	for _, x := range wrong() {
		h.one(x)
		for _, b := range append(some(), wrong()...) {
			h.pair(x, b)
			h.pair(b, x)
			h.added(b, x, b)
			h.added(b, b, x)
		}
		h.added(x)
		h.added(full(400), full(400), full(400), x)
		h.added(full(400), x, full(400))
		h.added(nil, nil, nil, x)
		if q, r, e := large.Div(x, nil); len(q) > 0 || len(r) > 0 || e != api.ErrArg {
			t.Error(x, q, r, e)
		}
		if b, e := large.Sub(nil, x); len(b) > 0 || e != api.ErrArg {
			t.Error(x, b, e)
		}
		if b, e := large.Mul(nil, x); len(b) > 0 || e != api.ErrArg {
			t.Error(x, b, e)
		}
	}
}

// TestCmp: zeros at the end, however many, do not count, nor does the length that a number may have.
func TestCmp(t *testing.T) {
	h := held{t}
	zeros := func(b []byte, n int) []byte { return append(bytes.Clone(b), make([]byte, n)...) }
	l := [][]byte{nil, {1}, {2}, {0, 1}, {1, 1}, {0, 2}, {255, 1}, full(399), full(400), full(401), zeros(nil, 1), append(zeros(nil, 400), 1), append(zeros(nil, 500), 1), append([]byte{1}, append(zeros(nil, 499), 1)...)}
	for _, a := range l {
		for _, b := range l {
			want := number(a).Cmp(number(b))
			for _, n := range []int{0, 1, 2, 7, 400, 1000} {
				for _, m := range []int{0, 1, 3, 401} {
					if c := large.Cmp(zeros(a, n), zeros(b, m)); c != want {
						t.Fatal(a, n, b, m, c, want)
					}
				}
			}
		}
	}
	// A difference in one digit only, at each place.
	a := chance(rand.New(rand.NewSource(4)), 400)
	for i := range a {
		b := bytes.Clone(a)
		b[i] ^= 1
		if c := large.Cmp(a, b); c != number(a).Cmp(number(b)) || large.Cmp(b, a) != -c || large.Cmp(a, a) != 0 {
			t.Fatal(i, c)
		}
		h.added(a, b)
	}
}

// TestAdd: no summands, many of them, carries of more than a byte, and sums at the end of what there is room for.
func TestAdd(t *testing.T) {
	h := held{t}
	for _, a := range some() {
		h.added(a)
		h.added(a, nil)
		h.added(nil, a, nil)
		h.added(a, a, a)
	}
	for _, n := range []int{2, 128, 255, 256, 257, 258, 1000, 65536, 66000} {
		for _, b := range [][]byte{nil, {1}, {255}, {255, 255, 255}, full(9)} {
			h.added([]byte{1}, slices.Repeat([][]byte{b}, n)...)
		}
	}
	// Sums of 256 to the exponent 400, less one, equal, and one more.
	for _, d := range []int64{-1, 0, 1} {
		h.added(full(400), nil, digits(big.NewInt(d+1)))
		h.added(power(3199, 0), power(3199, d))
		h.added(power(3198, 0), power(3198, 0), power(3198, 0), power(3198, d))
		h.added(power(3192, d), slices.Repeat([][]byte{power(3192, 0)}, 255)...)
		h.added(power(3184, d), slices.Repeat([][]byte{power(3184, 0)}, 65535)...)
		h.added(power(3200, -300), slices.Repeat([][]byte{{1}}, int(300+d))...)
	}
	h.added(full(400), full(400))
	h.added(full(400), slices.Repeat([][]byte{full(400)}, 300)...)
	if b, e := large.Add([]byte{200}, []byte{100}, []byte{212, 254}, []byte{1}); !bytes.Equal(b, []byte{1, 0, 1}) || e != api.OK {
		t.Error(b, e)
	}
}

// TestSub: equal numbers, numbers that differ by one, and what is borrowed over many zeros.
func TestSub(t *testing.T) {
	h := held{t}
	for n := range 3200 {
		for _, x := range [][2][]byte{{power(n, 0), {1}}, {power(n, 0), power(n, 0)}, {power(n, 0), power(n, 1)}, {power(n, 1), power(n, 0)}, {{1}, power(n, 0)}, {power(n, 0), power(n, -1)}, {power(n, -1), power(n, 0)}, {nil, power(n, 0)}, {power(n, 0), nil}} {
			d, e := large.Sub(x[0], x[1])
			h.told("Sub", d, e, new(big.Int).Sub(number(x[0]), number(x[1])), x[0], x[1])
		}
	}
	if b, e := large.Sub(full(400), full(399)); e != api.OK || !bytes.Equal(b, append(make([]byte, 399), 255)) {
		t.Error(b, e)
	}
	if b, e := large.Sub(nil, nil); e != api.OK || len(b) > 0 {
		t.Error(b, e)
	}
	if b, e := large.Sub(full(399), full(400)); e != api.ErrNone || len(b) > 0 {
		t.Error(b, e)
	}
}

// TestMul: products at the end of what there is room for, of factors of all lengths.
func TestMul(t *testing.T) {
	h := held{t}
	for n := range 401 {
		for _, x := range [][2][]byte{
			{full(n), full(400 - n)},
			{full(400 - n), append(make([]byte, n), 1)},
			{append(make([]byte, n), 255), full(400 - n)},
			{power(8*n, 0), power(3200-8*n, 0)},
			{power(8*n, 0), power(max(3199-8*n, 0), 0)},
			{power(8*n+4, 0), power(max(3195-8*n, 0), 0)},
			{power(8*n+4, 0), power(max(3196-8*n, 0), 0)},
			{power(8*n+7, -1), power(max(3193-8*n, 0), 0)},
			{full(n), full(401 - n)},
			{full(n), nil},
			{nil, full(n)},
			{full(n), {1}},
			{full(n), {2}},
			{full(n), {1, 1}},
		} {
			if !right(x[0]) || !right(x[1]) {
				continue
			}
			p, e := large.Mul(x[0], x[1])
			h.told("Mul", p, e, new(big.Int).Mul(number(x[0]), number(x[1])), x[0], x[1])
			p, e = large.Mul(x[1], x[0])
			h.told("Mul", p, e, new(big.Int).Mul(number(x[0]), number(x[1])), x[0], x[1])
		}
	}
	p, e := large.Mul(full(400), full(400))
	if len(p) > 0 || e != api.ErrFull {
		t.Error(p, e)
	}
	// The greatest square that there is room for, and the next one.
	root := new(big.Int).Sqrt(number(full(400)))
	for d := range int64(2) {
		b := digits(new(big.Int).Add(root, big.NewInt(d)))
		h.pair(b, b)
	}
}

// TestDiv: dividends around the multiples of divisors whose leading digits tell little of the others.
func TestDiv(t *testing.T) {
	h := held{t}
	r := rand.New(rand.NewSource(5))
	var divisors [][]byte
	for n := 1; n <= 20; n++ {
		divisors = append(divisors, full(n), power(8*n, 0), power(8*n, 1), power(8*n-1, 0), power(8*n-1, -1), chance(r, n))
		for _, first := range []byte{1, 2, 127, 128, 254, 255} {
			divisors = append(divisors, append(full(n), first), append(make([]byte, n), first), append(full(n), 0, first), append(full(n), 0, 0, 0, 0, 0, first))
		}
	}
	divisors = append(divisors, full(200), full(399), append(full(398), 1), append(full(150), power(64, 0)...))
	for _, b := range divisors {
		for _, q := range [][]byte{{1}, {2}, {3}, {127}, {128}, {254}, {255}, {0, 1}, {1, 1}, {255, 255}, {255, 0, 255}, power(56, 0), full(7), chance(r, 15)} {
			p := new(big.Int).Mul(number(b), number(q))
			for d := int64(-1); d <= 1; d++ {
				if a := digits(new(big.Int).Add(p, big.NewInt(d))); right(a) {
					h.divided(a, b)
				}
			}
			p.Add(p, number(b)).Sub(p, big.NewInt(1))
			if a := digits(p); right(a) {
				h.divided(a, b)
			}
		}
		h.divided(nil, b)
		h.divided(full(400), b)
		h.divided(chance(r, 400), b)
		h.divided(chance(r, len(b)), b)
		h.divided(b, nil)
	}
	for n := range 400 {
		h.divided(full(400), full(n))
		h.divided(full(n), full(400))
		h.divided(chance(r, 400), chance(r, n))
		h.divided(chance(r, n), chance(r, 10))
	}
}

// TestText: the numbers around each power of ten, and such with many zeros, which are written, too.
func TestText(t *testing.T) {
	h := held{t}
	for n := range 964 {
		for d := int64(-1); d <= 1; d++ {
			h.one(digits(ten(n, d)))
			h.one(digits(new(big.Int).Mul(ten(n, 0), big.NewInt(d+2))))
		}
		h.one(power(3*n, 0))
	}
	for _, c := range []struct {
		b []byte
		s string
	}{
		{nil, "0"}, {[]byte{}, "0"}, {[]byte{1}, "1"}, {[]byte{9}, "9"}, {[]byte{10}, "10"}, {[]byte{255}, "255"}, {[]byte{0, 1}, "256"},
		{power(64, 0), "18446744073709551616"},
		{[]byte{0}, ""}, {[]byte{5, 0}, ""}, {full(401), ""},
	} {
		if s := large.Text(c.b); s != c.s {
			t.Errorf("Text(%v) = %q", c.b, s)
		}
	}
	if s := large.Text(full(400)); s != number(full(400)).String() || len(s) != 964 {
		t.Error(s)
	}
}

// TestReadWrong: each byte at each place of a text, other digits, signs and such.
func TestReadWrong(t *testing.T) {
	h := held{t}
	for c := range 256 {
		x := string([]byte{byte(c)})
		for _, s := range []string{"", "0", "1", "9", "12", "70", "123456789012345", "1234567890123456", "12345678901234567"} {
			for at := range len(s) + 1 {
				h.read(s[:at] + x + s[at:])
			}
			h.read(x + s + x)
			h.read(x + x + s)
			h.read(s + x + x)
		}
		long := strings.Repeat("9", 1200)
		if c < '0' || c > '9' {
			for _, at := range []int{0, 1, 15, 16, 17, 500, 963, 964, 965, 1199, 1200} {
				if b, e := large.Read(long[:at] + x + long[at:]); len(b) > 0 || e != api.ErrForm {
					t.Error(c, at, b, e)
				}
			}
		}
	}
	for _, s := range []string{"", " ", "+1", "-1", "-0", "+0", "00", "01", "000", "1 ", " 1", "1\n", "1\x00", "0x10", "1_0", "1_000", "1e3", "1.0", "1,0", "\u0661", "\uff11", "1\u0660", "0" + strings.Repeat("9", 2000), strings.Repeat("0", 2000), strings.Repeat("9", 2000) + "\u0660", "-" + strings.Repeat("9", 2000)} {
		if b, e := large.Read(s); len(b) > 0 || e != api.ErrForm {
			t.Errorf("Read(%q) = %v, %d", s, b, e)
		}
	}
}

// TestRead: texts of each length, and those at the end of what there is room for.
func TestRead(t *testing.T) {
	h := held{t}
	for n := 1; n < 1100; n++ {
		h.read(strings.Repeat("9", n))
		h.read("1" + strings.Repeat("0", n))
		h.read(strings.Repeat("10", n))
		h.read(strings.Repeat("1234567890", n)[:n])
	}
	for d := int64(-20); d <= 20; d++ {
		n := new(big.Int).Add(number(append(make([]byte, 400), 1)), big.NewInt(d))
		b, e := large.Read(n.String())
		if d < 0 && (e != api.OK || !bytes.Equal(b, digits(n))) || d >= 0 && (e != api.ErrFull || len(b) > 0) {
			t.Error(d, b, e)
		}
	}
	for _, s := range []string{"1" + strings.Repeat("0", 5000000), strings.Repeat("9", 5000001)} {
		if b, e := large.Read(s); len(b) > 0 || e != api.ErrFull {
			t.Error(len(s), len(b), e)
		}
	}
}

// TestLaws: what holds of all numbers, of such by chance.
func TestLaws(t *testing.T) {
	h := held{t}
	r := rand.New(rand.NewSource(6))
	sum := func(a []byte, b ...[]byte) []byte {
		s, e := large.Add(a, b...)
		if e != api.OK {
			t.Fatal(a, b, e)
		}
		return s
	}
	mul := func(a, b []byte) []byte {
		p, e := large.Mul(a, b)
		if e != api.OK {
			t.Fatal(a, b, e)
		}
		return p
	}
	for range 4000 {
		a, b, c := chance(r, r.Intn(130)), chance(r, r.Intn(130)), chance(r, r.Intn(130))
		h.one(a)
		h.pair(a, b)
		same := [][2][]byte{
			{sum(a, b), sum(b, a)},
			{sum(sum(a, b), c), sum(a, sum(b, c))},
			{sum(a, b, c), sum(c, b, a)},
			{mul(a, b), mul(b, a)},
			{mul(mul(a, b), c), mul(a, mul(b, c))},
			{mul(a, sum(b, c)), sum(mul(a, b), mul(a, c))},
		}
		for i, x := range same {
			if !bytes.Equal(x[0], x[1]) || large.Cmp(x[0], x[1]) != 0 {
				t.Fatal(i, a, b, c, x)
			}
		}
		if d, e := large.Sub(sum(a, b), b); !bytes.Equal(d, a) || e != api.OK {
			t.Fatal(a, b, d, e)
		}
		if q, rest, e := large.Div(a, b); len(b) > 0 && (e != api.OK || !bytes.Equal(sum(mul(q, b), rest), a) || large.Cmp(rest, b) >= 0) {
			t.Fatal(a, b, q, rest, e)
		}
	}
	for range 1500 {
		h.pair(chance(r, r.Intn(403)), chance(r, r.Intn(403)))
	}
}

// calls are all calls that answer bytes, of a and b.
func calls(a, b []byte) [][]byte {
	x, _ := large.Of(258)
	sum, _ := large.Add(a, b, a)
	same, _ := large.Add(a)
	d, _ := large.Sub(a, b)
	all, _ := large.Sub(a, nil)
	p, _ := large.Mul(a, b)
	once, _ := large.Mul(a, []byte{1})
	q, r, _ := large.Div(a, b)
	q1, r1, _ := large.Div(a, []byte{1})
	q0, r0, _ := large.Div(b, a)
	s, _ := large.Read(large.Text(a))
	return [][]byte{x, sum, same, d, all, p, once, q, r, q1, r1, q0, r0, s}
}

// TestMemory: what is handed in is not changed, also behind its length; what is handed out is new.
func TestMemory(t *testing.T) {
	for _, x := range [][2][]byte{{{1, 2, 3, 4, 5, 6, 7, 8, 9, 10}, {7, 8, 9}}, {full(100), full(99)}, {full(20), full(20)}, {{255}, {1}}} {
		a, b := append(bytes.Clone(x[0]), 77, 78), append(bytes.Clone(x[1]), 79, 80)
		was := [][]byte{bytes.Clone(a), bytes.Clone(b)}
		first := calls(a[:len(x[0])], b[:len(x[1])])
		large.Cmp(a, b)
		large.Int(a[:len(x[0])])
		if !bytes.Equal(a, was[0]) || !bytes.Equal(b, was[1]) {
			t.Fatal("changed", a, b)
		}
		want := calls(x[0], x[1])
		var l [][]byte
		for i, y := range append(calls(a[:len(x[0])], b[:len(x[1])]), first...) {
			if !bytes.Equal(y, want[i%len(want)]) {
				t.Fatal(i, y, want[i%len(want)])
			}
			l = append(l, y)
		}
		// Each answer is filled to its capacity with a number of its own; whatever shares memory with it would have that, too.
		clear(a)
		clear(b)
		for i := range l {
			for k := range l[i] {
				l[i][k] = byte(i)
			}
			for n := len(l[i]); len(l[i]) < cap(l[i]); {
				l[i] = append(l[i], byte(i))
				if len(l[i]) > n+500 {
					break
				}
			}
		}
		for i := range l {
			for _, d := range l[i] {
				if d != byte(i) {
					t.Fatal(i, "shares memory with", d)
				}
			}
		}
		for _, d := range append(bytes.Clone(a), b...) {
			if d != 0 {
				t.Fatal("an argument shares memory with", d)
			}
		}
	}
	// The same argument several times.
	a := full(30)
	sum, _ := large.Add(a, a, a)
	p, _ := large.Mul(a, a)
	q, r, _ := large.Div(a, a)
	d, e := large.Sub(a, a)
	if !bytes.Equal(a, full(30)) || number(sum).Cmp(new(big.Int).Mul(number(a), big.NewInt(3))) != 0 || number(p).Cmp(new(big.Int).Mul(number(a), number(a))) != 0 || !bytes.Equal(q, []byte{1}) || len(r) > 0 || len(d) > 0 || e != api.OK {
		t.Error(a, sum, p, q, r, d, e)
	}
	// A list of summands is not changed either.
	l := [][]byte{{1}, {2}, {3}, {4}}
	if b, e := large.Add([]byte{9}, l[:2]...); !bytes.Equal(b, []byte{12}) || e != api.OK || !bytes.Equal(slices.Concat(l...), []byte{1, 2, 3, 4}) {
		t.Error(b, e, l)
	}
}
