package clock_test

import (
	"fmt"
	"math"
	"math/rand"
	"slices"
	"testing"

	"webster/api"
	"webster/clock"
)

const most = 16384 // elements of the greatest clock

// state is what Is tells of an element.
type state struct {
	present bool
	touched bool
	pinned  bool
}

// model is a clock in the plainest form, against which the package is held.
type model struct {
	l    []state
	hand int
}

func (p *model) has(i int) bool {
	return i >= 0 && i < len(p.l)
}

func (p *model) is(i int) state {
	if !p.has(i) {
		return state{}
	}
	return p.l[i]
}

func (p *model) in(i int, on bool) api.Errno {
	if !p.has(i) {
		return api.ErrNone
	}
	p.l[i] = state{present: on}
	return api.OK
}

func (p *model) touch(l []int) api.Errno {
	for _, i := range l {
		if !p.is(i).present {
			return api.ErrNone
		}
	}
	for _, i := range l {
		p.l[i].touched = true
	}
	return api.OK
}

func (p *model) pin(i int, on bool) api.Errno {
	if !p.is(i).present {
		return api.ErrNone
	}
	p.l[i].pinned = on
	return api.OK
}

// victim takes the first untouched one of those that may be taken, from the hand on; if all are touched, the first one. The touches of those ahead of it end.
func (p *model) victim() (int, bool) {
	var l []int
	for k := range p.l {
		if i := (p.hand + k) % len(p.l); p.l[i].present && !p.l[i].pinned {
			l = append(l, i)
		}
	}
	if len(l) == 0 {
		return 0, false
	}
	ahead := slices.IndexFunc(l, func(i int) bool { return !p.l[i].touched })
	victim := l[max(ahead, 0)]
	if ahead < 0 {
		ahead = len(l)
	}
	for _, i := range l[:ahead] {
		p.l[i].touched = false
	}
	p.hand = (victim + 1) % len(p.l)
	return victim, true
}

// pair is a clock beside the model that tells what it must answer.
type pair struct {
	*testing.T
	c *clock.Clock
	p *model
}

func made(t *testing.T, n int) pair {
	t.Helper()
	c, e := clock.New(n)
	if c == nil || e != api.OK {
		t.Fatal("New", n, c, e)
	}
	return pair{t, c, &model{l: make([]state, n)}}
}

// laid returns a clock with elements in these states, and its hand at hand.
func laid(t *testing.T, hand int, l []state) pair {
	t.Helper()
	a := made(t, len(l))
	if hand > 0 {
		a.in(hand-1, true)
		a.victim()
		a.in(hand-1, false)
	}
	for i, s := range l {
		a.in(i, s.present)
		if s.touched {
			a.touch(i)
		}
		if s.pinned {
			a.pin(i, true)
		}
	}
	if a.c.Hand() != hand || !slices.Equal(a.p.l, l) {
		t.Fatal("the hand is at", a.c.Hand(), "of", a.p.l, "want", hand, l)
	}
	a.same()
	return a
}

func (a pair) in(i int, on bool) api.Errno {
	a.Helper()
	e := a.c.In(i, on)
	if want := a.p.in(i, on); e != want {
		a.Fatal("In", i, on, e, "want", want)
	}
	return e
}

func (a pair) touch(l ...int) api.Errno {
	a.Helper()
	e := a.c.Touch(l...)
	if want := a.p.touch(l); e != want {
		a.Fatal("Touch", l, e, "want", want)
	}
	return e
}

func (a pair) pin(i int, on bool) api.Errno {
	a.Helper()
	e := a.c.Pin(i, on)
	if want := a.p.pin(i, on); e != want {
		a.Fatal("Pin", i, on, e, "want", want)
	}
	return e
}

func (a pair) victim() (int, bool) {
	a.Helper()
	i, ok := a.c.Victim()
	if want, has := a.p.victim(); i != want || ok != has {
		a.Fatal("Victim", i, ok, "want", want, has)
	}
	return i, ok
}

// same fails the test unless the clock is what the model is.
func (a pair) same() {
	a.Helper()
	if a.c.Hand() != a.p.hand {
		a.Fatal("Hand", a.c.Hand(), "want", a.p.hand)
	}
	for i := -2; i < len(a.p.l)+3; i++ {
		a.is(i)
	}
}

func (a pair) is(i int) {
	a.Helper()
	var s state
	s.present, s.touched, s.pinned = a.c.Is(i)
	if want := a.p.is(i); s != want {
		a.Fatal("Is", i, s, "want", want)
	}
}

// strangers are numbers that are no elements; some would be one in another kind of integer.
func strangers() []int {
	return []int{
		-1, -2, -most, most, most + 1, 1 << 15, 1 << 16, 1<<16 + 1, 1 << 32, 1<<32 + 1, -1 << 32, 1 - 1<<32, 1 << 62, 1<<62 + 1,
		math.MaxInt - 1, math.MaxInt, math.MinInt, math.MinInt + 1,
	}
}

// kinds are all states that an element can be in.
func kinds() []state {
	return []state{{}, {true, false, false}, {true, true, false}, {true, false, true}, {true, true, true}}
}

// states are all lists of n states.
func states(n int) [][]state {
	if n == 0 {
		return [][]state{nil}
	}
	var all [][]state
	for _, l := range states(n - 1) {
		for _, s := range kinds() {
			all = append(all, append(slices.Clone(l), s))
		}
	}
	return all
}

// each calls f for each clock of n elements in each state, with its hand at each element.
func each(t *testing.T, n int, f func(a pair)) {
	t.Helper()
	for _, l := range states(n) {
		for hand := range max(n, 1) {
			f(laid(t, hand, l))
		}
	}
}

// numbers are all lists of k numbers from -1 to n.
func numbers(k int, n int) [][]int {
	if k == 0 {
		return [][]int{nil}
	}
	var all [][]int
	for _, l := range numbers(k-1, n) {
		for i := -1; i <= n; i++ {
			all = append(all, append(slices.Clone(l), i))
		}
	}
	return all
}

func TestNew(t *testing.T) {
	for _, n := range []int{0, 1, 2, 3, 255, 256, most - 1, most} {
		a := made(t, n)
		a.same()
		if i, ok := a.victim(); i != 0 || ok {
			t.Error(n, i, ok)
		}
		a.same()
	}
	for _, n := range []int{-1, -2, -most, most + 1, most + 2, 1 << 15, 1 << 16, 1<<16 + 1, 1 << 32, 1<<32 + 1, 1 << 62, math.MaxInt, math.MinInt} {
		if c, e := clock.New(n); c != nil || e != api.ErrArg {
			t.Error("New", n, c, e)
		}
	}
}

func TestExample(t *testing.T) {
	c, e := clock.New(3)
	if e != api.OK {
		t.Fatal(e)
	}
	for i := range 3 {
		if e := c.In(i, true); e != api.OK {
			t.Error(i, e)
		}
	}
	if e := c.Touch(0); e != api.OK {
		t.Error(e)
	}
	for _, want := range []int{1, 2, 0} {
		if i, ok := c.Victim(); i != want || !ok {
			t.Error(i, ok, "want", want)
		}
	}
}

// TestNil: the calls on a nil clock, with good arguments and with bad ones.
func TestNil(t *testing.T) {
	var c *clock.Clock
	if i, ok := c.Victim(); i != 0 || ok || c.Hand() != 0 {
		t.Error(i, ok, c.Hand())
	}
	if c.Touch() != api.ErrNil || c.Touch(0, 1) != api.ErrNil {
		t.Error(c.Touch(), c.Touch(0, 1))
	}
	for _, v := range append(strangers(), 0, 1, 2) {
		for _, on := range []bool{false, true} {
			if c.In(v, on) != api.ErrNil || c.Pin(v, on) != api.ErrNil {
				t.Error(v, on, c.In(v, on), c.Pin(v, on))
			}
		}
		if e := c.Touch(v); e != api.ErrNil {
			t.Error(v, e)
		}
		if present, touched, pinned := c.Is(v); present || touched || pinned {
			t.Error(v, present, touched, pinned)
		}
	}
}

// TestEmpty: a clock without elements has no victim; nor has one that New did not make.
func TestEmpty(t *testing.T) {
	for _, a := range []pair{made(t, 0), {t, new(clock.Clock), &model{}}} {
		for _, v := range append(strangers(), 0, 1, 2) {
			for _, on := range []bool{false, true} {
				if a.in(v, on) != api.ErrNone || a.pin(v, on) != api.ErrNone {
					t.Error(v, on)
				}
			}
			if a.touch(v) != api.ErrNone {
				t.Error(v)
			}
			a.is(v)
		}
		if a.touch() != api.OK {
			t.Error("Touch")
		}
		for range 3 {
			if i, ok := a.victim(); i != 0 || ok {
				t.Error(i, ok)
			}
			a.same()
		}
	}
}

// TestStrangers: numbers that are no elements are refused by clocks of several sizes, whose elements are all present, and nothing changes.
func TestStrangers(t *testing.T) {
	for _, n := range []int{1, 2, 3, 300} {
		a := made(t, n)
		for i := range n {
			a.in(i, true)
		}
		for _, v := range append(strangers(), n, n+1) {
			for _, on := range []bool{false, true} {
				if a.in(v, on) != api.ErrNone || a.pin(v, on) != api.ErrNone {
					t.Error(n, v, on)
				}
			}
			if a.touch(v) != api.ErrNone || a.touch(0, v) != api.ErrNone || a.touch(v, 0) != api.ErrNone {
				t.Error(n, v)
			}
			a.is(v)
		}
		a.same()
	}
}

// TestEveryIn: an element in any state comes and goes, which takes a touch and a pin away, and leaves the others and the hand as they were.
func TestEveryIn(t *testing.T) {
	for n := range 4 {
		for i := -1; i <= n; i++ {
			for _, on := range []bool{false, true} {
				each(t, n, func(a pair) {
					if e := a.in(i, on); (e == api.OK) != (i >= 0 && i < n) {
						t.Fatal(n, i, on, e)
					}
					a.same()
					a.in(i, on)
					a.same()
				})
			}
		}
	}
}

// TestBack: what comes and goes again leaves nothing behind, whatever it was meanwhile.
func TestBack(t *testing.T) {
	each(t, 3, func(a pair) {
		before, hand := slices.Clone(a.p.l), a.p.hand
		for i, s := range before {
			if s.present {
				continue
			}
			a.in(i, true)
			a.touch(i)
			a.pin(i, true)
			a.in(i, false)
			a.same()
		}
		if !slices.Equal(a.p.l, before) || a.c.Hand() != hand {
			t.Fatal(a.p.l, a.c.Hand(), "want", before, hand)
		}
	})
}

// TestEveryPin: an element in any state is pinned, and not; a touch remains.
func TestEveryPin(t *testing.T) {
	for n := range 4 {
		for i := -1; i <= n; i++ {
			for _, on := range []bool{false, true} {
				each(t, n, func(a pair) {
					if e := a.pin(i, on); (e == api.OK) != a.p.is(i).present {
						t.Fatal(n, i, on, e)
					}
					a.same()
					a.pin(i, !on)
					a.same()
				})
			}
		}
	}
}

// TestEveryTouch: all lists of up to three numbers, of which some are no elements, some not present, some pinned or touched, and some listed twice.
func TestEveryTouch(t *testing.T) {
	for n := range 4 {
		for k := range 4 {
			lists := numbers(k, n)
			for _, s := range states(n) {
				for _, l := range lists {
					a := laid(t, 0, s)
					all := !slices.ContainsFunc(l, func(i int) bool { return !a.p.is(i).present })
					if e := a.touch(l...); (e == api.OK) != all {
						t.Fatal(s, l, e)
					}
					a.same()
				}
			}
		}
	}
}

// TestEveryVictim: each small clock in each state, with its hand at each element: one victim after another, which all remain present.
func TestEveryVictim(t *testing.T) {
	for n := range 5 {
		each(t, n, func(a pair) {
			before := slices.Clone(a.p.l)
			for range 2*n + 2 {
				i, ok := a.victim()
				a.same()
				if present, _, pinned := a.c.Is(i); ok && (!present || pinned) {
					t.Fatal(before, i)
				}
			}
		})
	}
}

// TestOrder: if each victim goes, all that may be taken are taken, once each, those that were touched behind those that were not, both in the order of the hand, and then there is none.
func TestOrder(t *testing.T) {
	for n := range 5 {
		each(t, n, func(a pair) {
			before, hand := slices.Clone(a.p.l), a.p.hand
			var want []int
			for _, touched := range []bool{false, true} {
				for k := range n {
					if i := (hand + k) % n; before[i] == (state{present: true, touched: touched}) {
						want = append(want, i)
					}
				}
			}
			var got []int
			for {
				i, ok := a.victim()
				if !ok {
					break
				}
				got = append(got, i)
				a.in(i, false)
				a.same()
			}
			if !slices.Equal(got, want) {
				t.Fatal(before, hand, got, "want", want)
			}
		})
	}
}

// TestPinned: a clock whose elements are all pinned, or not present, has no victim; the hand and the touches remain; what is pinned no longer may be taken, and its touch counts.
func TestPinned(t *testing.T) {
	for n := 1; n < 6; n++ {
		for hand := range n {
			l := make([]state, n)
			for i := range l {
				l[i] = state{i%3 != 2, i%3 == 0, i%3 != 2}
			}
			a := laid(t, hand, l)
			for range 3 {
				if i, ok := a.victim(); i != 0 || ok || a.c.Hand() != hand {
					t.Fatal(n, hand, i, ok, a.c.Hand())
				}
				a.same()
			}
			a.pin(0, false)
			if i, ok := a.victim(); i != 0 || !ok || a.c.Hand() != 1%n {
				t.Fatal(n, hand, i, ok, a.c.Hand())
			}
			a.same()
			a.touch(0)
			a.pin(0, true)
			a.victim()
			a.pin(0, false)
			a.same()
			if _, touched, _ := a.c.Is(0); !touched {
				t.Fatal(n, hand, "the touch of a pinned element is gone")
			}
		}
	}
}

// TestSecondRound: if all are touched, all touches end, and the one that the hand was at is returned; the next victims follow it.
func TestSecondRound(t *testing.T) {
	for n := 1; n < 6; n++ {
		for hand := range n {
			a := laid(t, hand, slices.Repeat([]state{{true, true, false}}, n))
			for k := range 2 * n {
				if i, ok := a.victim(); i != (hand+k)%n || !ok || a.c.Hand() != (hand+k+1)%n {
					t.Fatal(n, hand, k, i, ok, a.c.Hand())
				}
				for i := range n {
					if _, touched, _ := a.c.Is(i); touched {
						t.Fatal(n, hand, i)
					}
				}
				a.same()
			}
		}
	}
}

// TestMemory: a list of elements that is handed in is neither changed nor kept.
func TestMemory(t *testing.T) {
	a := made(t, 6)
	for i := range 6 {
		a.in(i, i != 5)
	}
	l := []int{4, 1, 1, 0, 5}
	for _, e := range []api.Errno{a.touch(l...), a.touch(l[:4]...)} {
		if !slices.Equal(l, []int{4, 1, 1, 0, 5}) {
			t.Error(e, l)
		}
	}
	for i := range l {
		l[i] = 3
	}
	for range 12 {
		a.same()
		a.victim()
	}
	if !slices.Equal(l, []int{3, 3, 3, 3, 3}) {
		t.Error(l)
	}
}

// TestIndependent: two clocks have nothing in common.
func TestIndependent(t *testing.T) {
	a, b := made(t, 3), made(t, 3)
	for _, x := range []pair{a, b} {
		x.in(0, true)
		x.in(2, true)
	}
	for _, f := range []func(){
		func() { a.touch(0) },
		func() { b.pin(2, true) },
		func() { a.victim() },
		func() { b.in(1, true) },
		func() { b.victim() },
		func() { a.in(0, false) },
		func() { b.touch(1, 2) },
		func() { a.victim() },
	} {
		f()
		a.same()
		b.same()
	}
}

// TestGreatest: the greatest clock, with its last elements present, pinned and touched, and full.
func TestGreatest(t *testing.T) {
	a := made(t, most)
	for _, i := range []int{most - 1, most - 2, 8000, 255, 256} {
		a.in(i, true)
	}
	a.pin(8000, true)
	a.touch(most-1, 255)
	for _, want := range []int{256, most - 2, 255, 256, most - 2, most - 1, 255} {
		if i, ok := a.victim(); i != want || !ok || a.c.Hand() != (want+1)%most {
			t.Fatal(i, ok, a.c.Hand(), "want", want)
		}
	}
	a.same()
	var all []int
	for i := range most {
		a.in(i, true)
		all = append(all, i)
	}
	a.pin(256, true)
	if a.touch(append(all, most)...) != api.ErrNone || a.touch(all...) != api.OK {
		t.Error("Touch")
	}
	a.same()
	for k := range most - 1 {
		if i, ok := a.c.Victim(); i != (257+k)%most || !ok {
			t.Fatal(k, i, ok)
		}
	}
	if i, ok := a.c.Victim(); i != 257 || !ok || a.c.Hand() != 258 {
		t.Error(i, ok, a.c.Hand())
	}
}

// TestLong: long work by chance on clocks of several sizes, held against the model.
func TestLong(t *testing.T) {
	for _, n := range []int{1, 2, 5, 17, 60} {
		t.Run(fmt.Sprint(n), func(t *testing.T) {
			r := rand.New(rand.NewSource(1))
			a := made(t, n)
			for range 8000 {
				a.step(r)
				a.same()
			}
		})
	}
}

// step makes one call, mostly with elements that exist.
func (a pair) step(r *rand.Rand) {
	a.Helper()
	some := func() int { return r.Intn(len(a.p.l)+2) - 1 }
	switch r.Intn(8) {
	case 0, 1:
		a.in(some(), r.Intn(3) > 0)
	case 2:
		a.pin(some(), r.Intn(2) > 0)
	case 3:
		a.touch(some(), some())
	case 4, 5:
		a.touch(some())
	case 6, 7:
		if i, ok := a.victim(); ok && r.Intn(3) == 0 {
			a.in(i, false)
		}
	}
}
