package order_test

import (
	"math"
	"slices"
	"testing"

	"whisper/api"
	"whisper/order"
)

// The tests of P1.1 (New, Len, Below), P1.2 (Join, Meet, Bottom, Top) and P1.3 (the laws), each named after its promise.

type pair = [2]int

// build is New for inputs that are lattices.
func build(t *testing.T, n int, below ...pair) *order.Order {
	t.Helper()
	o, e := order.New(n, below...)
	if e != api.OK || o == nil {
		t.Fatalf("New(%d, %v): %v, %v", n, below, o, e)
	}
	return o
}

// diamond is the order of the chapter's example.
func diamond() []pair { return []pair{{0, 1}, {0, 2}, {1, 3}, {2, 3}} }

// chain has each point below the next one.
func chain(n int) []pair {
	var l []pair
	for a := 1; a < n; a++ {
		l = append(l, pair{a - 1, a})
	}
	return l
}

// wide has all points but the first and the last side by side.
func wide(n int) []pair {
	var l []pair
	for a := 1; a < n-1; a++ {
		l = append(l, pair{0, a}, pair{a, n - 1})
	}
	return l
}

// cube has the sets of some bits, each below those with one bit more.
func cube(bits int) []pair {
	var l []pair
	for a := range 1 << bits {
		for b := range bits {
			if a>>b&1 == 0 {
				l = append(l, pair{a, a | 1<<b})
			}
		}
	}
	return l
}

// swapped reverses the order.
func swapped(l []pair) []pair {
	var out []pair
	for _, p := range l {
		out = append(out, pair{p[1], p[0]})
	}
	return out
}

// renamed gives the points other numbers, so that none stands where a loop over them would begin or end.
func renamed(n, by int, l []pair) []pair {
	var out []pair
	for _, p := range l {
		out = append(out, pair{(p[0]*by + 1) % n, (p[1]*by + 1) % n})
	}
	return out
}

// pairsWithRepeats has pairs of points with themselves, and every pair twice.
func pairsWithRepeats(n int, l []pair) []pair {
	out := slices.Concat(l, l)
	for a := range n {
		out = append(out, pair{a, a})
	}
	return out
}

// model follows the chapter's words by trying all points: it is what the package is held against.
type model struct {
	n     int
	below [][]bool
}

func newModel(n int, l []pair) *model {
	m := &model{n: n}
	for a := range n {
		m.below = append(m.below, make([]bool, n))
		m.below[a][a] = true
	}
	for _, p := range l {
		m.below[p[0]][p[1]] = true
	}
	for more := true; more; {
		more = false
		for a := range n {
			for b := range n {
				for c := range n {
					if m.below[a][b] && m.below[b][c] && !m.below[a][c] {
						m.below[a][c], more = true, true
					}
				}
			}
		}
	}
	return m
}

// least returns the point that the whole list is below, by the given relation, and that is below all such points.
func (m *model) least(l []int, below func(a, b int) bool) int {
	bounds := func(x int) bool {
		return !slices.ContainsFunc(l, func(a int) bool { return !below(a, x) })
	}
	for x := range m.n {
		found := bounds(x)
		for y := range m.n {
			found = found && (!bounds(y) || below(x, y))
		}
		if found {
			return x
		}
	}
	return -1
}

func (m *model) up(a, b int) bool   { return m.below[a][b] }
func (m *model) down(a, b int) bool { return m.below[b][a] }

func (m *model) isLattice() bool {
	for a := range m.n {
		for b := range m.n {
			twins := a != b && m.below[a][b] && m.below[b][a]
			if twins || m.least([]int{a, b}, m.up) < 0 || m.least([]int{a, b}, m.down) < 0 {
				return false
			}
		}
	}
	return true
}

// holdAgainst compares every answer of an order with the model's.
func holdAgainst(t *testing.T, o *order.Order, m *model) {
	t.Helper()
	if o.Len() != m.n {
		t.Fatalf("Len: %d, not %d", o.Len(), m.n)
	}
	if got, want := o.Bottom(), m.least(nil, m.up); got != want {
		t.Errorf("Bottom: %d, not %d", got, want)
	}
	if got, want := o.Top(), m.least(nil, m.down); got != want {
		t.Errorf("Top: %d, not %d", got, want)
	}
	for a := range m.n {
		for b := range m.n {
			if got, want := o.Below(a, b), m.below[a][b]; got != want {
				t.Errorf("Below(%d, %d): %v, not %v", a, b, got, want)
			}
			if got, want := o.Join(a, b), m.least([]int{a, b}, m.up); got != want {
				t.Errorf("Join(%d, %d): %d, not %d", a, b, got, want)
			}
			if got, want := o.Meet(a, b), m.least([]int{a, b}, m.down); got != want {
				t.Errorf("Meet(%d, %d): %d, not %d", a, b, got, want)
			}
		}
	}
}

type named struct {
	name  string
	n     int
	below []pair
}

// lattices has ordinary ones and the greatest ones.
func lattices() []named {
	return []named{
		{"one point", 1, nil},
		{"one point, below itself", 1, []pair{{0, 0}}},
		{"two points", 2, []pair{{0, 1}}},
		{"two points, the other way", 2, []pair{{1, 0}}},
		{"diamond", 4, diamond()},
		{"diamond, reversed", 4, swapped(diamond())},
		{"diamond, with what follows said too", 4, append(diamond(), pair{0, 3})},
		{"diamond, with repeats", 4, pairsWithRepeats(4, diamond())},
		{"pentagon", 5, []pair{{0, 1}, {1, 2}, {2, 4}, {0, 3}, {3, 4}}},
		{"five, three side by side", 5, wide(5)},
		{"cube of 8", 8, renamed(8, 3, cube(3))},
		{"chain of 31", 31, chain(31)},
		{"chain of 32", 32, chain(32)},
		{"chain of 32, reversed", 32, swapped(chain(32))},
		{"chain of 32, mixed up", 32, renamed(32, 11, chain(32))},
		{"32, thirty side by side", 32, wide(32)},
		{"32, thirty side by side, mixed up", 32, renamed(32, 5, wide(32))},
		{"cube of 32", 32, cube(5)},
		{"cube of 32, reversed", 32, swapped(cube(5))},
		{"cube of 32, mixed up", 32, renamed(32, 13, cube(5))},
	}
}

func TestP1_1And2Lattices(t *testing.T) {
	for _, c := range lattices() {
		t.Run(c.name, func(t *testing.T) {
			holdAgainst(t, build(t, c.n, c.below...), newModel(c.n, c.below))
		})
	}
}

func TestP1_2Example(t *testing.T) {
	o := build(t, 4, diamond()...)
	if o.Join(1, 2) != 3 || o.Meet(1, 2) != 0 {
		t.Errorf("the join of 1 and 2 is %d, their meet %d", o.Join(1, 2), o.Meet(1, 2))
	}
	if o.Bottom() != 0 || o.Top() != 3 {
		t.Errorf("bottom %d, top %d", o.Bottom(), o.Top())
	}
}

// Every relation of up to four points is tried: New takes just the lattices, and answers as the model does.
func TestP1_1And2AllSmall(t *testing.T) {
	for n := 1; n <= 4; n++ {
		var every []pair
		for a := range n {
			for b := range n {
				if a != b {
					every = append(every, pair{a, b})
				}
			}
		}
		for chosen := range 1 << len(every) {
			var l []pair
			for i, p := range every {
				if chosen>>i&1 != 0 {
					l = append(l, p)
				}
			}
			holdSmall(t, n, l)
		}
	}
}

func holdSmall(t *testing.T, n int, l []pair) {
	t.Helper()
	m := newModel(n, l)
	o, e := order.New(n, l...)
	switch {
	case m.isLattice() && e == api.OK:
		holdAgainst(t, o, m)
	case m.isLattice():
		t.Errorf("New(%d, %v): %v for a lattice", n, l, e)
	case e != api.ErrOrder || o != nil:
		t.Errorf("New(%d, %v): %v, %v, not ErrOrder", n, l, o, e)
	}
}

func TestP1_1NoLattice(t *testing.T) {
	for _, c := range []named{
		{"two apart", 2, nil},
		{"two below one another", 2, []pair{{0, 1}, {1, 0}}},
		{"no join", 3, []pair{{0, 1}, {0, 2}}},
		{"no meet", 3, []pair{{0, 2}, {1, 2}}},
		{"a circle", 3, []pair{{0, 1}, {1, 2}, {2, 0}}},
		{"a circle between bottom and top", 4, append(chain(4), pair{2, 1})},
		{"two upper bounds, none the least", 6, []pair{{0, 1}, {0, 2}, {1, 3}, {1, 4}, {2, 3}, {2, 4}, {3, 5}, {4, 5}}},
		{"a point apart", 5, diamond()},
		{"32 apart", 32, nil},
		{"32, the last one apart", 32, chain(31)},
		{"32 in a circle", 32, append(chain(32), pair{31, 0})},
		{"32, the last two below one another", 32, append(chain(32), pair{31, 30})},
	} {
		if o, e := order.New(c.n, c.below...); e != api.ErrOrder || o != nil {
			t.Errorf("%s: %v, %v, not ErrOrder", c.name, o, e)
		}
	}
}

func TestP1_1WrongArguments(t *testing.T) {
	for _, c := range []named{
		{"no points", 0, nil},
		{"less than none", -1, nil},
		{"one too many", 33, chain(33)},
		{"one too many, pairs that fit", 33, chain(32)},
		{"far too many", math.MaxInt, nil},
		{"far below", math.MinInt, nil},
		{"no points, a pair that is none either", 0, []pair{{0, 0}}},
		{"first is n", 2, []pair{{2, 1}}},
		{"second is n", 2, []pair{{0, 2}}},
		{"first below 0", 2, []pair{{-1, 1}}},
		{"second below 0", 2, []pair{{0, -1}}},
		{"a number with itself that is no point", 2, []pair{{0, 1}, {2, 2}}},
		{"a wrong pair at the end", 4, append(diamond(), pair{3, 4})},
		{"32 of 32", 32, append(chain(32), pair{0, 32})},
		{"the greatest number", 1, []pair{{0, math.MaxInt}}},
		{"the least number", 1, []pair{{math.MinInt, 0}}},
		{"no lattice, and a wrong pair behind it", 2, []pair{{0, 1}, {1, 0}, {0, 2}}},
		{"a wrong pair, and no lattice", 3, []pair{{-1, 0}}},
	} {
		if o, e := order.New(c.n, c.below...); e != api.ErrArg || o != nil {
			t.Errorf("%s: %v, %v, not ErrArg", c.name, o, e)
		}
	}
}

// strangers are numbers that are no points of an order of n points.
func strangers(n int) []int {
	return []int{-1, -n, n, n + 1, 32, 33, 63, 64, -32, -64, 1 << 32, math.MaxInt, math.MinInt}
}

func TestP1_1And2NoPoint(t *testing.T) {
	for _, c := range lattices() {
		o := build(t, c.n, c.below...)
		for _, s := range strangers(c.n) {
			for _, p := range []pair{{s, 0}, {0, s}, {s, c.n - 1}, {c.n - 1, s}, {s, s}} {
				if s >= 0 && s < c.n {
					t.Fatalf("%d is a point", s)
				}
				holdNone(t, o, p[0], p[1])
			}
		}
	}
}

func holdNone(t *testing.T, o *order.Order, a, b int) {
	t.Helper()
	if o.Below(a, b) || o.Join(a, b) != -1 || o.Meet(a, b) != -1 {
		t.Errorf("of %d and %d: below %v, join %d, meet %d", a, b, o.Below(a, b), o.Join(a, b), o.Meet(a, b))
	}
}

// The chapter says what a nil order answers; an order that New did not make has no points either.
func TestP1_2NoOrder(t *testing.T) {
	for _, o := range []*order.Order{nil, {}} {
		if o.Len() != 0 || o.Bottom() != -1 || o.Top() != -1 {
			t.Errorf("%v: length %d, bottom %d, top %d", o, o.Len(), o.Bottom(), o.Top())
		}
		for _, a := range append(strangers(0), 0, 1) {
			holdNone(t, o, a, a)
			holdNone(t, o, 0, a)
			holdNone(t, o, a, 0)
		}
	}
}

func TestP1_3Laws(t *testing.T) {
	for _, c := range lattices() {
		o := build(t, c.n, c.below...)
		for a := range c.n {
			if o.Join(a, a) != a || o.Meet(a, a) != a {
				t.Errorf("%s: not idempotent at %d", c.name, a)
			}
			for b := range c.n {
				holdLawsOfTwo(t, c.name, o, a, b)
				for d := range c.n {
					holdLawsOfThree(t, c.name, o, a, b, d)
				}
			}
		}
	}
}

func holdLawsOfTwo(t *testing.T, name string, o *order.Order, a, b int) {
	t.Helper()
	if o.Join(a, b) != o.Join(b, a) || o.Meet(a, b) != o.Meet(b, a) {
		t.Errorf("%s: not commutative at %d, %d", name, a, b)
	}
	if o.Join(a, o.Meet(a, b)) != a || o.Meet(a, o.Join(a, b)) != a {
		t.Errorf("%s: not absorbing at %d, %d", name, a, b)
	}
	if o.Below(a, b) != (o.Join(a, b) == b) || o.Below(a, b) != (o.Meet(a, b) == a) {
		t.Errorf("%s: not of the order at %d, %d", name, a, b)
	}
}

func holdLawsOfThree(t *testing.T, name string, o *order.Order, a, b, c int) {
	t.Helper()
	if o.Join(a, o.Join(b, c)) != o.Join(o.Join(a, b), c) || o.Meet(a, o.Meet(b, c)) != o.Meet(o.Meet(a, b), c) {
		t.Errorf("%s: not associative at %d, %d, %d", name, a, b, c)
	}
}

// Rule 3: the pairs are neither kept nor changed, and what stands behind a slice's end is not read.
func TestRule3Pairs(t *testing.T) {
	l := append(diamond(), pair{3, 0}, pair{9, 9})
	before := slices.Clone(l)
	o := build(t, 4, l[:4]...)
	if !slices.Equal(l, before) {
		t.Errorf("the pairs are changed: %v", l)
	}
	clear(l)
	holdAgainst(t, o, newModel(4, diamond()))
}

// P2: other orders, and the calls made before, change no answer.
func TestP2Apart(t *testing.T) {
	first := build(t, 4, diamond()...)
	second := build(t, 4, chain(4)...)
	for range 2 {
		holdAgainst(t, first, newModel(4, diamond()))
		holdAgainst(t, second, newModel(4, chain(4)))
		order.New(4)
	}
}
