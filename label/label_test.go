package label_test

import (
	"math"
	"slices"
	"testing"

	"whisper/api"
	"whisper/label"
	"whisper/order"
)

// The tests of P2.1, each named after its call.

type pair = [2]int

func build(t *testing.T, n int, below ...pair) *order.Order {
	t.Helper()
	o, e := order.New(n, below...)
	if e != api.OK {
		t.Fatalf("New(%d, %v): %v", n, below, e)
	}
	return o
}

// chain has each point below the next one.
func chain(n int) []pair {
	var l []pair
	for a := 1; a < n; a++ {
		l = append(l, pair{a - 1, a})
	}
	return l
}

// orders has one point and several, and bottoms and tops that are not the first and the last number; the last one is nil.
func orders(t *testing.T) []*order.Order {
	return []*order.Order{
		build(t, 1),
		build(t, 2, pair{0, 1}),
		build(t, 2, pair{1, 0}),
		build(t, 4, pair{0, 1}, pair{0, 2}, pair{1, 3}, pair{2, 3}),
		build(t, 5, pair{3, 0}, pair{3, 4}, pair{0, 2}, pair{2, 1}, pair{4, 1}),
		nil,
	}
}

// lattices has every order with every other one: what is right of one's points is wrong of the other's.
func lattices(t *testing.T) []label.Lattice {
	var all []label.Lattice
	for _, c := range orders(t) {
		for _, i := range orders(t) {
			all = append(all, label.Lattice{Conf: c, Integ: i})
		}
	}
	return all
}

// numbers has the points of an order, and numbers that are none.
func numbers(o *order.Order) []int {
	l := []int{math.MinInt, -1}
	for p := range o.Len() {
		l = append(l, p)
	}
	return append(l, o.Len(), 32, math.MaxInt)
}

func labels(l label.Lattice) []api.Label {
	var all []api.Label
	for _, c := range numbers(l.Conf) {
		for _, i := range numbers(l.Integ) {
			all = append(all, api.Label{Conf: c, Integ: i})
		}
	}
	return all
}

func isOneOf(o *order.Order, p int) bool { return o.Join(p, p) == p && p != -1 }

// two has two points each, 0 below 1, as in the chapter's example.
func two(t *testing.T) label.Lattice {
	return label.Lattice{Conf: build(t, 2, pair{0, 1}), Integ: build(t, 2, pair{0, 1})}
}

// mixed has orders of different size and form, neither of which begins with its bottom: 2 below 0, 0 below 1; and 1 below 3 and 0, these below 2.
func mixed(t *testing.T) label.Lattice {
	return label.Lattice{
		Conf:  build(t, 3, pair{2, 0}, pair{0, 1}),
		Integ: build(t, 4, pair{1, 3}, pair{1, 0}, pair{3, 2}, pair{0, 2}),
	}
}

func TestP2_1Example(t *testing.T) {
	if x := two(t).Join(api.Label{Conf: 1}, api.Label{Integ: 1}); x != (api.Label{Conf: 1, Integ: 1}) {
		t.Errorf("the join of (1, 0) and (0, 1) is %v", x)
	}
}

func TestP2_1Right(t *testing.T) {
	l := mixed(t)
	for _, c := range []struct {
		x    api.Label
		want bool
	}{
		{api.Label{Conf: 0, Integ: 0}, true},
		{api.Label{Conf: 2, Integ: 3}, true},
		{api.Label{Conf: 3, Integ: 0}, false},
		{api.Label{Conf: 0, Integ: 4}, false},
		{api.Label{Conf: -1, Integ: 0}, false},
		{api.Label{Conf: 0, Integ: -1}, false},
		{api.Label{Conf: 3, Integ: 4}, false},
		{api.Label{Conf: math.MinInt, Integ: math.MaxInt}, false},
	} {
		if got := l.Right(c.x); got != c.want {
			t.Errorf("Right(%v): %v", c.x, got)
		}
	}
	for _, l := range lattices(t) {
		for _, x := range labels(l) {
			if got, want := l.Right(x), isOneOf(l.Conf, x.Conf) && isOneOf(l.Integ, x.Integ); got != want {
				t.Errorf("of %d and %d points: Right(%v): %v", l.Conf.Len(), l.Integ.Len(), x, got)
			}
		}
	}
}

func TestP2_1Below(t *testing.T) {
	l := mixed(t)
	for _, c := range []struct {
		a, b api.Label
		want bool
	}{
		{api.Label{Conf: 0, Integ: 3}, api.Label{Conf: 0, Integ: 3}, true},
		{api.Label{Conf: 2, Integ: 1}, api.Label{Conf: 1, Integ: 2}, true},
		{api.Label{Conf: 1, Integ: 2}, api.Label{Conf: 2, Integ: 1}, false},
		{api.Label{Conf: 0, Integ: 1}, api.Label{Conf: 2, Integ: 2}, false},
		{api.Label{Conf: 2, Integ: 3}, api.Label{Conf: 1, Integ: 0}, false},
		{api.Label{Conf: 3, Integ: 1}, api.Label{Conf: 3, Integ: 2}, false},
		{api.Label{Conf: 2, Integ: 4}, api.Label{Conf: 1, Integ: 4}, false},
		{api.Label{Conf: -1, Integ: 1}, api.Label{Conf: 1, Integ: 2}, false},
		{api.Label{Conf: 2, Integ: 1}, api.Label{Conf: 1, Integ: -1}, false},
	} {
		if got := l.Below(c.a, c.b); got != c.want {
			t.Errorf("Below(%v, %v): %v", c.a, c.b, got)
		}
	}
	for _, l := range lattices(t) {
		for _, a := range labels(l) {
			for _, b := range labels(l) {
				if got, want := l.Below(a, b), l.Conf.Below(a.Conf, b.Conf) && l.Integ.Below(a.Integ, b.Integ); got != want {
					t.Errorf("of %d and %d points: Below(%v, %v): %v", l.Conf.Len(), l.Integ.Len(), a, b, got)
				}
			}
		}
	}
}

func TestP2_1Ends(t *testing.T) {
	if l := mixed(t); l.Bottom() != (api.Label{Conf: 2, Integ: 1}) || l.Top() != (api.Label{Conf: 1, Integ: 2}) {
		t.Errorf("bottom %v, top %v", l.Bottom(), l.Top())
	}
	for _, l := range lattices(t) {
		if got, want := l.Bottom(), (api.Label{Conf: l.Conf.Bottom(), Integ: l.Integ.Bottom()}); got != want {
			t.Errorf("Bottom: %v, not %v", got, want)
		}
		if got, want := l.Top(), (api.Label{Conf: l.Conf.Top(), Integ: l.Integ.Top()}); got != want {
			t.Errorf("Top: %v, not %v", got, want)
		}
	}
}

func TestP2_1Join(t *testing.T) {
	l := mixed(t)
	for _, c := range []struct {
		all  []api.Label
		want api.Label
	}{
		{nil, api.Label{Conf: 2, Integ: 1}},
		{[]api.Label{{Conf: 0, Integ: 3}}, api.Label{Conf: 0, Integ: 3}},
		{[]api.Label{{Conf: 0, Integ: 3}, {Conf: 0, Integ: 3}}, api.Label{Conf: 0, Integ: 3}},
		{[]api.Label{{Conf: 0, Integ: 3}, {Conf: 2, Integ: 0}}, api.Label{Conf: 0, Integ: 2}},
		{[]api.Label{{Conf: 2, Integ: 1}, {Conf: 2, Integ: 0}, {Conf: 1, Integ: 1}}, api.Label{Conf: 1, Integ: 0}},
		{[]api.Label{{Conf: 3, Integ: 0}}, api.Label{Conf: -1, Integ: 0}},
		{[]api.Label{{Conf: 0, Integ: -1}}, api.Label{Conf: 0, Integ: -1}},
		{[]api.Label{{Conf: 0, Integ: 4}, {Conf: 1, Integ: 3}}, api.Label{Conf: 1, Integ: -1}},
		{[]api.Label{{Conf: 0, Integ: 3}, {Conf: 9, Integ: 0}, {Conf: 1, Integ: 1}}, api.Label{Conf: -1, Integ: 2}},
		{[]api.Label{{Conf: 9, Integ: 0}, {Conf: 1, Integ: 9}}, api.Label{Conf: -1, Integ: -1}},
	} {
		if got := l.Join(c.all...); got != c.want {
			t.Errorf("Join(%v): %v, not %v", c.all, got, c.want)
		}
	}
}

// Every lattice is tried with no label, with one and with two; what several have is one join after the other.
func TestP2_1JoinOfUpToTwo(t *testing.T) {
	for _, l := range lattices(t) {
		if got := l.Join(); got != l.Bottom() {
			t.Errorf("Join(): %v, not %v", got, l.Bottom())
		}
		for _, a := range labels(l) {
			one := joinOfTwo(l, l.Bottom(), a)
			if got := l.Join(a); got != one || l.Right(a) && got != a {
				t.Errorf("Join(%v): %v, not %v", a, got, one)
			}
			for _, b := range labels(l) {
				if got, want := l.Join(a, b), joinOfTwo(l, one, b); got != want {
					t.Errorf("Join(%v, %v): %v, not %v", a, b, got, want)
				}
			}
		}
	}
}

func joinOfTwo(l label.Lattice, a, b api.Label) api.Label {
	return api.Label{Conf: l.Conf.Join(a.Conf, b.Conf), Integ: l.Integ.Join(a.Integ, b.Integ)}
}

func TestP2_1JoinOfMany(t *testing.T) {
	l := label.Lattice{Conf: build(t, 32, chain(32)...), Integ: build(t, 32, chain(32)...)}
	var all []api.Label
	for p := range 31 {
		all = append(all, api.Label{Conf: p, Integ: 30 - p})
	}
	if got := l.Join(all...); got != (api.Label{Conf: 30, Integ: 30}) {
		t.Errorf("the join of %v is %v", all, got)
	}
	for p := range all {
		wrong := slices.Clone(all)
		wrong[p].Conf = 32
		if got := l.Join(wrong...); got != (api.Label{Conf: -1, Integ: 30}) {
			t.Errorf("the join with a wrong label at %d is %v", p, got)
		}
	}
}

func TestP2_1Trusted(t *testing.T) {
	l := mixed(t)
	for _, c := range []struct {
		integ, attacker int
		want            bool
	}{
		{1, 3, true},
		{0, 3, true},
		{3, 3, false},
		{2, 3, false},
		{3, 2, true},
		{1, 1, false},
		{4, 3, true},
		{-1, 3, true},
		{2, 4, true},
		{2, -1, true},
		{-1, -1, true},
		{9, 9, true},
	} {
		for _, conf := range numbers(l.Conf) {
			if got := l.Trusted(api.Label{Conf: conf, Integ: c.integ}, c.attacker); got != c.want {
				t.Errorf("Trusted((%d, %d), %d): %v", conf, c.integ, c.attacker, got)
			}
		}
	}
	for _, l := range lattices(t) {
		for _, x := range labels(l) {
			for _, attacker := range numbers(l.Integ) {
				if got, want := l.Trusted(x, attacker), !l.Integ.Below(attacker, x.Integ); got != want {
					t.Errorf("of %d and %d points: Trusted(%v, %d): %v", l.Conf.Len(), l.Integ.Len(), x, attacker, got)
				}
			}
		}
	}
}

func TestP2_1NilOrders(t *testing.T) {
	var l label.Lattice
	none := api.Label{Conf: -1, Integ: -1}
	if l.Bottom() != none || l.Top() != none || l.Join() != none || l.Join(api.Label{}) != none {
		t.Errorf("bottom %v, top %v, joins %v, %v", l.Bottom(), l.Top(), l.Join(), l.Join(api.Label{}))
	}
	if l.Right(api.Label{}) || l.Right(none) || l.Below(api.Label{}, api.Label{}) || l.Below(none, none) {
		t.Error("a label of nil orders is right, or below one")
	}
	if !l.Trusted(api.Label{}, 0) || !l.Trusted(none, -1) {
		t.Error("an attacker of a nil order taints")
	}
}

// One nil order leaves the other one's points as they are.
func TestP2_1OneNilOrder(t *testing.T) {
	l := label.Lattice{Conf: mixed(t).Conf}
	if got := l.Join(api.Label{Conf: 0}, api.Label{Conf: 2}); got != (api.Label{Conf: 0, Integ: -1}) {
		t.Errorf("without an order of taint: %v", got)
	}
	l = label.Lattice{Integ: mixed(t).Integ}
	if got := l.Join(api.Label{Integ: 3}, api.Label{Integ: 0}); got != (api.Label{Conf: -1, Integ: 2}) {
		t.Errorf("without an order of secrecy: %v", got)
	}
	if l.Trusted(api.Label{Integ: 2}, 3) || !l.Trusted(api.Label{Integ: 0}, 3) {
		t.Error("without an order of secrecy, taint is another")
	}
}

// Rule 3: the labels are not changed, and what stands behind a slice's end is not read.
func TestRule3Labels(t *testing.T) {
	all := []api.Label{{Conf: 1}, {Integ: 0}, {Conf: 1, Integ: 1}}
	before := slices.Clone(all)
	if got := two(t).Join(all[:2]...); got != (api.Label{Conf: 1}) {
		t.Errorf("the join of the first two is %v", got)
	}
	if !slices.Equal(all, before) {
		t.Errorf("the labels are changed: %v", all)
	}
}

// P2: other lattices, and the calls made before, change no answer.
func TestP2Apart(t *testing.T) {
	first, second := two(t), mixed(t)
	x, y := api.Label{Conf: 1, Integ: 0}, api.Label{Conf: 0, Integ: 1}
	for range 2 {
		if got := first.Join(x, y); got != (api.Label{Conf: 1, Integ: 1}) {
			t.Errorf("with two points each: %v", got)
		}
		if got := second.Join(x, y); got != (api.Label{Conf: 1, Integ: 0}) {
			t.Errorf("with other orders: %v", got)
		}
		if first.Join() != (api.Label{}) || second.Join(api.Label{Conf: 9, Integ: 9}) != (api.Label{Conf: -1, Integ: -1}) {
			t.Error("the join of none, or of what is no label")
		}
	}
}
