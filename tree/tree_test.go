package tree_test

import (
	"math"
	"math/rand"
	"slices"
	"strconv"
	"testing"

	"whisper/api"
	"whisper/tree"
)

// The tests of P4.1 and P4.2, each named after the part of them that it holds.

func node(op string, kids ...int) api.Node { return api.Node{Op: op, Kids: kids} }

// full is a node each of whose fields says something; its number tells it from others.
func full(n int, kids ...int) api.Node {
	return api.Node{Op: "op", At: api.Pos{Line: n + 1, Col: 2*n + 1}, Name: "n" + strconv.Itoa(n), Int: int64(n) - 3, Kids: kids}
}

// equal is how nodes are held against each other: Kids that are nil are as good as empty ones.
func equal(a, b api.Node) bool {
	return a.Op == b.Op && a.At == b.At && a.Name == b.Name && a.Int == b.Int && slices.Equal(a.Kids, b.Kids)
}

func add(t *testing.T, x *tree.Tree, n api.Node) int {
	t.Helper()
	want := x.Len()
	i, e := x.Add(n)
	if i != want || e != api.OK {
		t.Fatalf("Add(%v) to %d nodes = %d, %v", n, want, i, e)
	}
	if x.Len() != want+1 {
		t.Fatalf("Add(%v) to %d nodes leaves %d", n, want, x.Len())
	}
	return i
}

// build is the tree of these nodes.
func build(t *testing.T, l ...api.Node) *tree.Tree {
	t.Helper()
	x := &tree.Tree{}
	for _, n := range l {
		add(t, x, n)
	}
	return x
}

// wantNodes holds all that a tree has against a list of nodes.
func wantNodes(t *testing.T, x *tree.Tree, want ...api.Node) {
	t.Helper()
	if x.Len() != len(want) {
		t.Errorf("Len() = %d; want %d", x.Len(), len(want))
	}
	for i, n := range want {
		if got, ok := x.Get(i); !ok || !equal(got, n) {
			t.Errorf("Get(%d) = %v, %v; want %v", i, got, ok, n)
		}
	}
	for _, i := range missing(x) {
		if got, ok := x.Get(i); ok || !equal(got, api.Node{}) {
			t.Errorf("Get(%d) of %d nodes = %v, %v", i, x.Len(), got, ok)
		}
	}
}

// all is every node of a tree.
func all(x *tree.Tree) []api.Node {
	var l []api.Node
	for i := range x.Len() {
		n, _ := x.Get(i)
		l = append(l, n)
	}
	return l
}

// missing is numbers that aren't there.
func missing(x *tree.Tree) []int {
	return []int{-1, x.Len(), x.Len() + 1, -x.Len() - 1, api.MaxNodes, math.MaxInt, math.MinInt, 1 << 32}
}

// wantEach holds Each, Size and Deep of an expression against each other and against a list of numbers.
func wantEach(t *testing.T, x *tree.Tree, i, deep int, want ...int) {
	t.Helper()
	var l []int
	for k, n := range x.Each(i) {
		l = append(l, k)
		if m, ok := x.Get(k); !ok || !equal(n, m) {
			t.Errorf("Each(%d) visits %d as %v; it is %v", i, k, n, m)
		}
	}
	if !slices.Equal(l, want) {
		t.Errorf("Each(%d) visits %v; want %v", i, l, want)
	}
	if x.Size(i) != len(want) || x.Deep(i) != deep {
		t.Errorf("Size(%d), Deep(%d) = %d, %d; want %d, %d", i, i, x.Size(i), x.Deep(i), len(want), deep)
	}
}

func TestP4_1Zero(t *testing.T) {
	var x tree.Tree
	wantNodes(t, &x)
	for _, i := range append(missing(&x), 0) {
		wantEach(t, &x, i, 0)
	}
	if i, e := x.Add(node("neg", 0)); i != 0 || e != api.ErrArg {
		t.Errorf("Add with a Kid to no nodes = %d, %v", i, e)
	}
	add(t, &x, full(0))
	wantNodes(t, &x, full(0))
	wantEach(t, &x, 0, 1, 0)
}

func TestP4_1Example(t *testing.T) {
	x := build(t, api.Node{Op: "int", Int: 1}, api.Node{Op: "int", Int: 2}, node("+", 0, 1))
	wantEach(t, x, 2, 2, 2, 0, 1)
}

func TestP4_1Add(t *testing.T) {
	l := []api.Node{full(0), {}, full(2, 0), full(3, 2, 2, 1, 0, 2), full(4, 3), {Kids: []int{4}}, {Kids: []int{}}}
	l = append(l, api.Node{Op: "\x00\xff", At: api.Pos{Line: -1, Col: math.MinInt}, Name: "let \n", Int: math.MinInt64})
	x := &tree.Tree{}
	for i, n := range l {
		add(t, x, n)
		wantNodes(t, x, l[:i+1]...)
	}
}

func TestP4_1AddKidsThatArentThere(t *testing.T) {
	l := []api.Node{full(0), full(1, 0), full(2, 1, 0)}
	x := build(t, l...)
	for _, k := range missing(x) {
		for _, kids := range [][]int{{k}, {k, 0}, {0, k}, {0, 1, 2, k}, {k, k}, {0, k, 2}} {
			if i, e := x.Add(full(3, kids...)); i != 0 || e != api.ErrArg {
				t.Errorf("Add with Kids %v to 3 nodes = %d, %v", kids, i, e)
			}
			wantNodes(t, x, l...)
		}
	}
	add(t, x, full(3, 2))
	wantNodes(t, x, append(l, full(3, 2))...)
}

func TestP4_1Limit(t *testing.T) {
	x := &tree.Tree{}
	for n := range api.MaxNodes {
		add(t, x, full(n))
	}
	if x.Len() != 4000 {
		t.Fatalf("Len() = %d", x.Len())
	}
	for _, n := range []api.Node{full(0), full(1, 0), full(2, 3999), full(3, 0, 3999, 7)} {
		if i, e := x.Add(n); i != 0 || e != api.ErrLimit {
			t.Errorf("Add(%v) to 4000 nodes = %d, %v", n, i, e)
		}
	}
	for _, k := range missing(x) {
		for _, n := range []api.Node{full(0, k), full(1, 3999, k), full(2, k, 0)} {
			if i, e := x.Add(n); i != 0 || e != api.ErrArg {
				t.Errorf("Add(%v) to 4000 nodes = %d, %v", n, i, e)
			}
		}
	}
	if n, ok := x.Get(3999); !ok || !equal(n, full(3999)) || x.Len() != 4000 {
		t.Errorf("Get(3999) = %v, %v, of %d nodes", n, ok, x.Len())
	}
	wantEach(t, x, 3999, 1, 3999)
	wantEach(t, x, 4000, 0)
}

func TestP4_1Each(t *testing.T) {
	x := build(t, full(0), full(1), full(2, 0, 1), full(3, 1, 0), full(4, 2, 3), full(5, 4), full(6, 5, 1, 5), full(7, 0, 0, 0))
	wantEach(t, x, 0, 1, 0)
	wantEach(t, x, 1, 1, 1)
	wantEach(t, x, 2, 2, 2, 0, 1)
	wantEach(t, x, 3, 2, 3, 1, 0)
	wantEach(t, x, 4, 3, 4, 2, 0, 1, 3, 1, 0)
	wantEach(t, x, 5, 4, 5, 4, 2, 0, 1, 3, 1, 0)
	wantEach(t, x, 6, 5, 6, 5, 4, 2, 0, 1, 3, 1, 0, 1, 5, 4, 2, 0, 1, 3, 1, 0)
	wantEach(t, x, 7, 2, 7, 0, 0, 0)
	for _, i := range missing(x) {
		wantEach(t, x, i, 0)
	}
}

func TestP4_1EachStops(t *testing.T) {
	x := build(t, full(0), full(1, 0), full(2, 1, 0), full(3, 2, 1, 2))
	order := []int{3, 2, 1, 0, 0, 1, 0, 2, 1, 0, 0}
	for stop := 1; stop <= len(order)+1; stop++ {
		var l []int
		x.Each(3)(func(i int, _ api.Node) bool {
			l = append(l, i)
			return len(l) < stop
		})
		if !slices.Equal(l, order[:min(stop, len(order))]) {
			t.Errorf("stopped after %d, Each(3) visits %v", stop, l)
		}
	}
}

func TestP4_1EachAgain(t *testing.T) {
	x := build(t, full(0), full(1, 0), full(2, 1, 0))
	each := x.Each(2)
	for range 2 {
		var l []int
		for i := range each {
			for k := range each {
				l = append(l, 10*i+k)
				if k == 1 {
					break
				}
			}
		}
		if !slices.Equal(l, []int{22, 21, 12, 11, 2, 1, 2, 1}) {
			t.Errorf("Each(2) within Each(2) visits %v", l)
		}
	}
}

func TestP4_1EachWhileNodesAreAdded(t *testing.T) {
	x := build(t, full(0), full(1, 0), full(2, 1, 0))
	var l []int
	for i := range x.Each(2) {
		l = append(l, i)
		for range 100 {
			add(t, x, full(x.Len(), i))
		}
	}
	if !slices.Equal(l, []int{2, 1, 0, 0}) || x.Len() != 403 {
		t.Errorf("Each(2) visits %v, of %d nodes", l, x.Len())
	}
	wantEach(t, x, 402, 2, 402, 0)
}

func TestP4_1Long(t *testing.T) {
	x := build(t, full(0))
	for n := 1; n < api.MaxNodes; n++ {
		add(t, x, full(n, n-1))
	}
	var down []int
	for i := range api.MaxNodes {
		down = append(down, api.MaxNodes-1-i)
	}
	wantEach(t, x, 3999, 4000, down...)
	wantEach(t, x, 1999, 2000, down[2000:]...)
}

func TestP4_1Wide(t *testing.T) {
	x := build(t, full(0), full(1, 0))
	kids := slices.Repeat([]int{0, 1, 0}, 5000)
	add(t, x, full(2, kids...))
	wantEach(t, x, 2, 3, append([]int{2}, slices.Repeat([]int{0, 1, 0, 0}, 5000)...)...)
}

// A node whose Kids are twice the node before it: each of them has twice as many nodes, and one more.
func TestP4_1Twice(t *testing.T) {
	x := build(t, full(0))
	for n := 1; n < 18; n++ {
		add(t, x, full(n, n-1, n-1))
	}
	for n := range 18 {
		visits := 0
		for range x.Each(n) {
			visits++
		}
		if want := 1<<(n+1) - 1; visits != want || x.Size(n) != want || x.Deep(n) != n+1 {
			t.Errorf("of %d: %d visits, Size %d, Deep %d; want %d, and Deep %d", n, visits, x.Size(n), x.Deep(n), want, n+1)
		}
	}
}

func TestP4_1Deep(t *testing.T) {
	// The deepest Kid is the first one, the last one, or one in between; nodes that are no part of the expression don't count.
	x := build(t, full(0), full(1, 0), full(2, 1), full(3, 2), full(4), full(5, 2, 4, 0), full(6, 0, 4, 2), full(7, 0, 2, 4), full(8, 4, 0))
	for i, want := range []int{1, 2, 3, 4, 1, 4, 4, 4, 2} {
		if got := x.Deep(i); got != want {
			t.Errorf("Deep(%d) = %d; want %d", i, got, want)
		}
	}
	for i, want := range []int{1, 2, 3, 4, 1, 6, 6, 6, 3} {
		if got := x.Size(i); got != want {
			t.Errorf("Size(%d) = %d; want %d", i, got, want)
		}
	}
}

// Whatever is given, or was given, may be changed by its owner.
func TestP4_1NothingShared(t *testing.T) {
	given := []int{0, 1, 9, 9}
	l := []api.Node{full(0), full(1, 0), full(2, 0, 1)}
	x := build(t, l[:2]...)
	add(t, x, full(2, given[:2]...))
	if !slices.Equal(given, []int{0, 1, 9, 9}) {
		t.Errorf("Add changed its Kids to %v", given)
	}
	given[0], given[1] = 7, 8
	wantNodes(t, x, l...)
	got, _ := x.Get(2)
	got.Kids[0], got.Name = 5, "other"
	_ = append(got.Kids[:1], 6)
	wantNodes(t, x, l...)
	for _, n := range x.Each(2) {
		for k := range n.Kids {
			n.Kids[k] = -1
		}
	}
	wantNodes(t, x, l...)
	wantEach(t, x, 2, 3, 2, 0, 1, 0)
	for _, i := range []int{-1, 3} {
		kids := []int{0, i, 1}
		x.Add(full(3, kids...))
		if !slices.Equal(kids, []int{0, i, 1}) {
			t.Errorf("Add changed its Kids to %v", kids)
		}
	}
}

func wantSame(t *testing.T, a *tree.Tree, i int, b *tree.Tree, k int, want bool) {
	t.Helper()
	if got := tree.Same(a, i, b, k); got != want {
		t.Errorf("Same of %d and %d is %v", i, k, got)
	}
	if got := tree.Same(b, k, a, i); got != want {
		t.Errorf("Same of %d and %d (the other way round) is %v", k, i, got)
	}
}

func TestP4_2SameNodes(t *testing.T) {
	a := build(t, api.Node{Op: "int", At: api.Pos{Line: 1, Col: 2}, Name: "x", Int: 3})
	for _, c := range []struct {
		n    api.Node
		same bool
	}{
		{api.Node{Op: "int", At: api.Pos{Line: 1, Col: 2}, Name: "x", Int: 3}, true},
		{api.Node{Op: "int", At: api.Pos{Line: 9, Col: 2}, Name: "x", Int: 3}, true},
		{api.Node{Op: "int", At: api.Pos{Line: 1, Col: 9}, Name: "x", Int: 3}, true},
		{api.Node{Op: "int", Name: "x", Int: 3, Kids: []int{}}, true},
		{api.Node{Op: "var", Name: "x", Int: 3}, false},
		{api.Node{Op: "Int", Name: "x", Int: 3}, false},
		{api.Node{Op: "int", Name: "y", Int: 3}, false},
		{api.Node{Op: "int", Name: "", Int: 3}, false},
		{api.Node{Op: "int", Name: "x", Int: -3}, false},
		{api.Node{Op: "int", Name: "x", Int: 3 + 1<<32}, false},
		{api.Node{Op: "x", Name: "int", Int: 3}, false},
		{api.Node{Op: "intx", Name: "", Int: 3}, false},
		{api.Node{}, false},
	} {
		b := build(t, c.n)
		wantSame(t, a, 0, b, 0, c.same)
		add(t, b, node("neg", 0))
		wantSame(t, build(t, all(a)[0], node("neg", 0)), 1, b, 1, c.same)
		wantSame(t, build(t, all(a)[0], node("", 0, 0)), 1, build(t, all(a)[0], c.n, node("", 0, 1)), 2, c.same)
		wantSame(t, build(t, all(a)[0], node("", 0, 0)), 1, build(t, all(a)[0], c.n, node("", 1, 0)), 2, c.same)
	}
}

func TestP4_2SameKids(t *testing.T) {
	a := build(t, full(0), full(1), full(2, 0, 1))
	b := build(t, full(1), full(0), full(2, 1, 0), full(2, 0, 1), full(2, 1), full(2), full(2, 1, 0, 0), full(2, 1, 0, 1), full(2, 1, 1), full(2, 0, 0), full(3, 1, 0))
	for k := 2; k < b.Len(); k++ {
		wantSame(t, a, 2, b, k, k == 2)
	}
	wantSame(t, a, 0, b, 1, true)
	wantSame(t, a, 0, b, 0, false)
	wantSame(t, a, 2, a, 2, true)
	wantSame(t, a, 2, a, 0, false)
}

// Where nodes stand, and whether they occur in several places or stand there several times, makes no difference.
func TestP4_2SameWhereverTheyStand(t *testing.T) {
	a := build(t, full(0), full(1, 0, 0), full(2, 1, 1))
	b := build(t, full(9), full(0), full(0), full(0), full(8, 0), full(0), full(1, 1, 2), full(1, 5, 3), full(2, 6, 7), full(2, 7, 7))
	for _, k := range []int{8, 9} {
		wantSame(t, a, 2, b, k, true)
	}
	wantSame(t, b, 8, b, 9, true)
	wantSame(t, b, 6, b, 7, true)
	wantSame(t, a, 1, b, 7, true)
	wantSame(t, a, 1, b, 8, false)
	c := build(t, full(0), full(5), full(1, 0, 0), full(1, 0, 1), full(2, 2, 3))
	wantSame(t, a, 2, c, 4, false)
	// Nodes 2 and 3 are the same, which says nothing of the two that are number 3.
	d := build(t, full(0), full(1), full(2, 0), full(2, 1), full(4, 2, 3))
	e := build(t, full(0), full(1), full(9), full(2, 0), full(4, 3, 3))
	wantSame(t, d, 4, e, 4, false)
}

func TestP4_2SameOfNone(t *testing.T) {
	a, b := build(t, full(0), api.Node{}), build(t, api.Node{})
	for _, i := range missing(a) {
		for _, k := range missing(a) {
			wantSame(t, a, i, b, k, true)
			wantSame(t, a, i, a, k, true)
			wantSame(t, a, i, &tree.Tree{}, 0, true)
		}
		wantSame(t, a, i, b, 0, false)
		wantSame(t, a, i, a, 1, false)
	}
	wantSame(t, &tree.Tree{}, 0, b, 0, false)
	wantSame(t, &tree.Tree{}, 0, &tree.Tree{}, 0, true)
}

// copied is the tree that a Copy into an empty one makes.
func copied(t *testing.T, from *tree.Tree, i int) (*tree.Tree, int) {
	t.Helper()
	x := &tree.Tree{}
	k, e := x.Copy(from, i, nil)
	if e != api.OK {
		t.Fatalf("Copy of %d: %v", i, e)
	}
	return x, k
}

func wantCopy(t *testing.T, x, from *tree.Tree, i int, fill func(api.Node) (int, bool), want int, err api.Errno) {
	t.Helper()
	if k, e := x.Copy(from, i, fill); k != want || e != err {
		t.Errorf("Copy of %d = %d, %v; want %d, %v", i, k, e, want, err)
	}
}

func TestP4_2Copy(t *testing.T) {
	l := []api.Node{full(0), full(1), full(2, 1, 0), full(3, 2, 0, 2)}
	x := build(t, l...)
	y := build(t, full(10), full(11, 0))
	wantCopy(t, y, x, 3, nil, 9, api.OK)
	wantNodes(t, y, full(10), full(11, 0), full(1), full(0), full(2, 2, 3), full(0), full(1), full(0), full(2, 6, 7), full(3, 4, 5, 8))
	wantNodes(t, x, l...)
	wantSame(t, x, 3, y, 9, true)
	wantCopy(t, y, x, 0, nil, 10, api.OK)
	wantCopy(t, y, x, 0, nil, 11, api.OK)
	if y.Len() != 12 {
		t.Errorf("%d nodes after two more", y.Len())
	}
	z, k := copied(t, y, 1)
	wantNodes(t, z, full(10), full(11, 0))
	if k != 1 {
		t.Errorf("Copy of 1 into no nodes = %d", k)
	}
}

func TestP4_2CopyOfNone(t *testing.T) {
	fill := func(api.Node) (int, bool) {
		t.Error("fill is asked for no expression")
		return 0, true
	}
	x, y := build(t, full(0), full(1, 0), full(2, 1)), build(t, full(10))
	for _, i := range missing(x) {
		wantCopy(t, y, x, i, nil, 0, api.ErrArg)
		wantCopy(t, y, x, i, fill, 0, api.ErrArg)
		wantCopy(t, x, x, i, fill, 0, api.ErrArg)
	}
	wantCopy(t, y, &tree.Tree{}, 0, fill, 0, api.ErrArg)
	wantNodes(t, y, full(10))
	wantNodes(t, x, full(0), full(1, 0), full(2, 1))
}

func TestP4_2CopyIntoItself(t *testing.T) {
	l := []api.Node{full(0), full(1, 0), full(2, 1, 1)}
	x := build(t, l...)
	wantCopy(t, x, x, 2, nil, 7, api.OK)
	l = append(l, full(0), full(1, 3), full(0), full(1, 5), full(2, 4, 6))
	wantNodes(t, x, l...)
	wantSame(t, x, 2, x, 7, true)
	wantCopy(t, x, x, 2, func(n api.Node) (int, bool) { return 7, n.Name == "n1" }, 8, api.OK)
	wantNodes(t, x, append(l, full(2, 7, 7))...)
}

func TestP4_2CopyFillFalse(t *testing.T) {
	x := build(t, full(0), full(1), full(2, 1, 0), full(3, 2, 0, 2))
	y := build(t, full(10))
	var asked []string
	wantCopy(t, y, x, 3, func(n api.Node) (int, bool) {
		for _, m := range all(x) {
			if m.Name == n.Name && !equal(m, n) {
				t.Errorf("fill is given %v; want %v", n, m)
			}
		}
		asked = append(asked, n.Name)
		return 0, false
	}, 8, api.OK)
	wantNodes(t, y, full(10), full(1), full(0), full(2, 1, 2), full(0), full(1), full(0), full(2, 5, 6), full(3, 3, 4, 7))
	if !slices.Equal(asked, []string{"n3", "n2", "n1", "n0", "n0", "n2", "n1", "n0"}) {
		t.Errorf("fill is asked for %v", asked)
	}
	for _, k := range []int{-1, 1, 99, math.MaxInt} { // what it returns beside false says nothing
		z := &tree.Tree{}
		wantCopy(t, z, x, 2, func(api.Node) (int, bool) { return k, false }, 2, api.OK)
		wantNodes(t, z, full(1), full(0), full(2, 0, 1))
	}
}

func TestP4_2CopyFillTrue(t *testing.T) {
	x := build(t, full(0), full(1), full(2, 1, 0), full(3, 2, 0, 2), full(4, 3))
	y := build(t, full(10), full(11, 0))
	var asked []string
	wantCopy(t, y, x, 4, func(n api.Node) (int, bool) {
		asked = append(asked, n.Name)
		return 1, n.Name == "n2"
	}, 4, api.OK)
	wantNodes(t, y, full(10), full(11, 0), full(0), full(3, 1, 2, 1), full(4, 3))
	if !slices.Equal(asked, []string{"n4", "n3", "n2", "n0", "n2"}) {
		t.Errorf("fill is asked for %v", asked)
	}
	wantCopy(t, y, x, 4, func(n api.Node) (int, bool) { return 1, true }, 1, api.OK)
	if y.Len() != 5 {
		t.Errorf("%d nodes after a Copy that is filled at once", y.Len())
	}
}

// A number that isn't there is the result, if it stands for the whole; within it, no node can have it among its Kids.
func TestP4_2CopyFillThatIsntThere(t *testing.T) {
	x := build(t, full(0), full(1), full(2, 1, 0), full(3, 2))
	for _, k := range []int{-1, 1, 2, 99, 4000, math.MaxInt, math.MinInt} {
		y := build(t, full(10))
		wantCopy(t, y, x, 3, func(api.Node) (int, bool) { return k, true }, k, api.OK)
		wantCopy(t, y, x, 3, func(n api.Node) (int, bool) { return k, n.Name == "n2" }, 0, api.ErrArg)
		wantNodes(t, y, full(10))
	}
	for _, k := range []int{-1, 2, 3, 99} {
		wantCopy(t, build(t, full(10)), x, 2, func(n api.Node) (int, bool) { return k, n.Name == "n1" }, 0, api.ErrArg)
	}
	// Only Add asks whether it is there: by then the other Kid's copy is number 1.
	y := build(t, full(10))
	wantCopy(t, y, x, 2, func(n api.Node) (int, bool) { return 1, n.Name == "n1" }, 2, api.OK)
	wantNodes(t, y, full(10), full(0), full(2, 1, 1))
}

func TestP4_2CopyFillAddsNodes(t *testing.T) {
	x := build(t, full(0), full(1), full(2, 1, 0, 1))
	y := &tree.Tree{}
	wantCopy(t, y, x, 2, func(n api.Node) (int, bool) {
		if n.Name != "n1" {
			return 0, false
		}
		return add(t, y, full(20)), true
	}, 3, api.OK)
	wantNodes(t, y, full(20), full(0), full(20), full(2, 0, 1, 2))
	wantCopy(t, x, x, 2, func(n api.Node) (int, bool) {
		if n.Name != "n1" {
			return 0, false
		}
		k, _ := x.Copy(y, 3, nil)
		return k, true
	}, 12, api.OK)
	if n, _ := x.Get(12); !equal(n, full(2, 6, 7, 11)) {
		t.Errorf("after a Copy within a Copy, the node is %v", n)
	}
}

func TestP4_2CopyFillChangesItsNode(t *testing.T) {
	l := []api.Node{full(0), full(1), full(2, 1, 0), full(3, 2, 0)}
	x := build(t, l...)
	y := &tree.Tree{}
	wantCopy(t, y, x, 3, func(n api.Node) (int, bool) {
		for k := range n.Kids {
			n.Kids[k] = 0
		}
		return 0, false
	}, 4, api.OK)
	wantNodes(t, x, l...)
	wantNodes(t, y, full(1), full(0), full(2, 0, 1), full(0), full(3, 2, 3))
}

// almost is a tree with room for so many nodes.
func almost(t *testing.T, room int) *tree.Tree {
	t.Helper()
	x := &tree.Tree{}
	for n := range api.MaxNodes - room {
		add(t, x, full(n))
	}
	return x
}

func TestP4_2CopyLimit(t *testing.T) {
	x := build(t, full(0), full(1), full(2, 1, 0), full(3, 2, 2))
	for room := range 9 {
		y := almost(t, room)
		want, err := 3999-room+7, api.OK
		if room < 7 {
			want, err = 0, api.ErrLimit
		}
		wantCopy(t, y, x, 3, nil, want, err)
		// Nodes that are copied ahead of the error are there: no sentence takes them back.
		if y.Len() != min(4000, 4000-room+7) {
			t.Errorf("room for %d: %d nodes after Copy", room, y.Len())
		}
		if n, ok := y.Get(3999 - room); ok && !equal(n, full(3999-room)) {
			t.Errorf("room for %d: the node ahead of the copied ones is %v", room, n)
		}
	}
	y := almost(t, 0)
	wantCopy(t, y, x, 3, func(api.Node) (int, bool) { return 5, true }, 5, api.OK)
	wantCopy(t, y, x, 3, func(n api.Node) (int, bool) { return 5, n.Name == "n2" }, 0, api.ErrLimit)
	wantCopy(t, y, x, 4, nil, 0, api.ErrArg)
	wantCopy(t, y, y, 0, nil, 0, api.ErrLimit)
	z := almost(t, 1)
	wantCopy(t, z, x, 3, func(n api.Node) (int, bool) { return 5, n.Name == "n2" }, 3999, api.OK)
}

// The first of the Kids that has an error decides; Add's error comes after theirs.
func TestP4_2CopyFirstError(t *testing.T) {
	x := build(t, full(0), full(1, 0), full(2, 0), full(3, 1, 2), full(4, 2, 1), full(5, 0, 1))
	bad := func(n api.Node) (int, bool) {
		if n.Name == "n0" {
			return -1, true
		}
		return 0, false
	}
	half := func(first string) func(api.Node) (int, bool) { // within the node of that name, a Kid that isn't there
		within := false
		return func(n api.Node) (int, bool) {
			if n.Name == "n0" {
				return -1, within
			}
			within = n.Name == first
			return 0, false
		}
	}
	y := almost(t, 0)
	wantCopy(t, y, x, 3, bad, 0, api.ErrArg)
	wantCopy(t, y, x, 3, half("n1"), 0, api.ErrArg)
	wantCopy(t, y, x, 3, half("n2"), 0, api.ErrLimit)
	wantCopy(t, y, x, 4, half("n2"), 0, api.ErrArg)
	wantCopy(t, y, x, 4, half("n1"), 0, api.ErrLimit)
	// The first Kid isn't there, which Add would find; the second one has an error of its own ahead of that.
	wantCopy(t, y, x, 5, half("n5"), 0, api.ErrLimit)
	if y.Len() != 4000 {
		t.Errorf("%d nodes", y.Len())
	}
}

func TestP4_2Clone(t *testing.T) {
	l := []api.Node{full(0), full(1, 0), full(2, 1, 0)}
	x := build(t, l...)
	y := x.Clone()
	wantNodes(t, y, l...)
	add(t, x, full(3, 2))
	wantNodes(t, y, l...)
	add(t, y, full(4, 2, 2))
	add(t, y, full(5, 3))
	wantNodes(t, x, full(0), full(1, 0), full(2, 1, 0), full(3, 2))
	wantNodes(t, y, full(0), full(1, 0), full(2, 1, 0), full(4, 2, 2), full(5, 3))
	z := y.Clone()
	add(t, z, full(6, 4))
	wantNodes(t, y, full(0), full(1, 0), full(2, 1, 0), full(4, 2, 2), full(5, 3))
	wantEach(t, z, 5, 6, 5, 4, 3, 2, 1, 0, 0, 2, 1, 0, 0)
}

// A tree that grows by each of some steps, so that it has room to spare at some of them: its clones don't share that room.
func TestP4_2CloneAtEverySize(t *testing.T) {
	x := &tree.Tree{}
	for n := range 70 {
		y, z := x.Clone(), x.Clone()
		add(t, y, full(1000))
		add(t, z, full(2000))
		add(t, x, full(n))
		for c, want := range map[*tree.Tree]api.Node{x: full(n), y: full(1000), z: full(2000)} {
			if got, _ := c.Get(n); !equal(got, want) || c.Len() != n+1 {
				t.Errorf("the last of %d nodes is %v; want %v of %d", c.Len(), got, want, n+1)
			}
		}
	}
}

func TestP4_2CloneOfNoneAndOfMany(t *testing.T) {
	y := (&tree.Tree{}).Clone()
	wantNodes(t, y)
	add(t, y, full(0))
	x := almost(t, 0)
	c := x.Clone()
	wantNodes(t, c, all(x)...)
	if i, e := c.Add(full(0)); i != 0 || e != api.ErrLimit {
		t.Errorf("Add to the clone of 4000 nodes = %d, %v", i, e)
	}
}

func TestP4_2Nil(t *testing.T) {
	var none *tree.Tree
	x := build(t, full(0), full(1, 0))
	fill := func(api.Node) (int, bool) { return 0, true }
	for _, n := range []api.Node{{}, full(0), full(1, 0), full(2, -1)} {
		if i, e := none.Add(n); i != 0 || e != api.ErrArg {
			t.Errorf("Add to nil = %d, %v", i, e)
		}
	}
	wantNodes(t, none)
	for _, i := range []int{0, 1, -1, 4000, math.MaxInt, math.MinInt} {
		wantEach(t, none, i, 0)
		for _, f := range []func(api.Node) (int, bool){nil, fill} {
			wantCopy(t, none, x, i, f, 0, api.ErrArg)
			wantCopy(t, x, none, i, f, 0, api.ErrArg)
			wantCopy(t, none, none, i, f, 0, api.ErrArg)
		}
	}
	wantSame(t, none, 0, x, 0, false)
	wantSame(t, none, 1, x, 1, false)
	wantNodes(t, none.Clone())
	wantNodes(t, x, full(0), full(1, 0))
}

// term is an expression put as the chapter's words put it: a node, and the expressions of its Kids.
type term struct {
	place int
	node  api.Node
	kids  []term
}

func termOf(l []api.Node, i int) term {
	x := term{place: i, node: l[i]}
	for _, k := range l[i].Kids {
		x.kids = append(x.kids, termOf(l, k))
	}
	return x
}

func (x term) places() []int {
	l := []int{x.place}
	for _, k := range x.kids {
		l = append(l, k.places()...)
	}
	return l
}

func (x term) deep() int {
	most := 0
	for _, k := range x.kids {
		most = max(most, k.deep())
	}
	return 1 + most
}

func (x term) same(y term) bool {
	if x.node.Op != y.node.Op || x.node.Name != y.node.Name || x.node.Int != y.node.Int || len(x.kids) != len(y.kids) {
		return false
	}
	for i := range x.kids {
		if !x.kids[i].same(y.kids[i]) {
			return false
		}
	}
	return true
}

// copyTo is the nodes of l and those of a copy of x, and the copy's number; in the place of nodes of a name stands another number.
func (x term) copyTo(l []api.Node, name string, other int) ([]api.Node, int) {
	if x.node.Name == name {
		return l, other
	}
	n := x.node
	n.Kids = nil
	for _, k := range x.kids {
		var i int
		l, i = k.copyTo(l, name, other)
		n.Kids = append(n.Kids, i)
	}
	return append(l, n), len(l)
}

// grown is nodes made of bytes: few of each kind, so that many are the same, with up to 3 Kids that are near.
func grown(b []byte) []api.Node {
	var l []api.Node
	for i := 0; i+4 <= len(b) && len(l) < 10; i += 4 {
		n := api.Node{Op: []string{"a", "b"}[b[i]%2], Name: []string{"", "x", "x"}[b[i]/2%3], Int: int64(b[i] / 6 % 2), At: api.Pos{Line: i, Col: int(b[i])}}
		for _, k := range b[i+1 : i+4] {
			if k >= 64 && len(l) > 0 {
				n.Kids = append(n.Kids, max(0, len(l)-1-int(k%4)))
			}
		}
		l = append(l, n)
	}
	return l
}

// hold holds the calls of two trees against their words.
func hold(t *testing.T, la, lb []api.Node) {
	t.Helper()
	a, b := build(t, la...), build(t, lb...)
	wantNodes(t, a, la...)
	for i := range la {
		x := termOf(la, i)
		wantEach(t, a, i, x.deep(), x.places()...)
		for k := range lb {
			wantSame(t, a, i, b, k, x.same(termOf(lb, k)))
		}
		if len(lb) == 0 {
			continue
		}
		for _, name := range []string{"no", "x"} {
			c := b.Clone()
			want, place := x.copyTo(slices.Clone(lb), name, 0)
			err := api.OK
			if len(want) > api.MaxNodes {
				want, place, err = want[:api.MaxNodes], 0, api.ErrLimit
			}
			wantCopy(t, c, a, i, func(n api.Node) (int, bool) { return 0, n.Name == name }, place, err)
			wantNodes(t, c, want...)
		}
	}
	wantNodes(t, a, la...)
	wantNodes(t, b, lb...)
}

func TestP4Words(t *testing.T) {
	r := rand.New(rand.NewSource(4))
	for range 300 {
		b := make([]byte, 64)
		r.Read(b)
		cut := 4 * r.Intn(17)
		hold(t, grown(b[:cut]), grown(b[cut:]))
		hold(t, grown(b[:cut]), grown(b[:cut]))
	}
}

func FuzzP4Words(f *testing.F) {
	f.Add([]byte("abcdABCDefghEFGH"), 8)
	f.Add([]byte{0, 0, 0, 0, 1, 64, 64, 64, 2, 65, 64, 64}, 4)
	f.Fuzz(func(t *testing.T, b []byte, cut int) {
		if cut < 0 || cut > len(b) || len(b) > 80 {
			return
		}
		hold(t, grown(b[:cut]), grown(b[cut:]))
	})
}

// The results of calls hang on the earlier calls on the tree, not on those on others.
func TestP2Apart(t *testing.T) {
	var x, y tree.Tree
	for n := range 50 {
		add(t, &x, full(n))
		if y.Len() != n {
			t.Fatalf("Len() = %d; want %d", y.Len(), n)
		}
		add(t, &y, full(100+n))
	}
	for n := range 50 {
		if a, _ := x.Get(n); !equal(a, full(n)) {
			t.Errorf("Get(%d) = %v", n, a)
		}
		if b, _ := y.Get(n); !equal(b, full(100+n)) {
			t.Errorf("Get(%d) = %v", n, b)
		}
	}
}
