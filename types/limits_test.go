package types_test

import (
	"strings"
	"testing"

	"whisper/api"
	"whisper/types"
)

// The tests of P1, with types that are nested deep, that share their parts, or that were unified one after the other in a long row.

const deep = 300_000

// left is a type nested deep in first parts, and right one in second parts.
func left(x *types.Types, a types.Type, n int) types.Type {
	for range n {
		a, _ = x.Pair(a, types.Int)
	}
	return a
}

func right(x *types.Types, a types.Type, n int) types.Type {
	for range n {
		a, _ = x.Pair(types.Int, a)
	}
	return a
}

// doubled is a type whose parts are both the same, and so on: its text has 2 to the power of n places.
func doubled(x *types.Types, a types.Type, n int) types.Type {
	for range n {
		a, _ = x.Pair(a, a)
	}
	return a
}

func TestP1ShowDeep(t *testing.T) {
	x := types.New()
	a := x.Var()
	l := x.Show(left(x, a, deep), right(x, a, deep))
	if l[0] != strings.Repeat("(", deep)+"'0"+strings.Repeat(", int)", deep) {
		t.Error("left", len(l[0]))
	}
	if l[1] != strings.Repeat("(int, ", deep)+"'0"+strings.Repeat(")", deep) {
		t.Error("right", len(l[1]))
	}
}

func TestP1UnifyDeep(t *testing.T) {
	for _, nest := range []func(x *types.Types, a types.Type, n int) types.Type{left, right} {
		x := types.New()
		a, b := x.Var(), x.Var()
		p, q, r := nest(x, a, deep), nest(x, b, deep), nest(x, types.Unit, deep)
		if x.Unify(a, p) != api.ErrType || x.Unify(p, a) != api.ErrType {
			t.Error("an open type was unified with one in which it occurs")
		}
		if x.Unify(p, q) != api.OK || x.Unify(b, p) != api.ErrType || x.Unify(a, q) != api.ErrType {
			t.Error("both open types aren't one")
		}
		if x.Unify(r, q) != api.OK {
			t.Error("Unify")
		}
		wantShow(t, x, []string{"unit", "unit"}, a, b)
		if x.Unify(p, nest(x, types.Bool, deep)) != api.ErrType {
			t.Error("unit is bool")
		}
	}
}

func TestP1UnifyDoubled(t *testing.T) {
	x := types.New()
	a, b := x.Var(), x.Var()
	p, q := doubled(x, a, 500), doubled(x, b, 500)
	if x.Unify(a, p) != api.ErrType || x.Unify(b, q) != api.ErrType {
		t.Error("an open type was unified with one in which it occurs")
	}
	if x.Unify(x.Var(), p) != api.OK || x.Unify(p, q) != api.OK {
		t.Error("Unify")
	}
	wantShow(t, x, []string{"'0", "'0"}, a, b)
	if x.Unify(p, doubled(x, types.Unit, 500)) != api.OK || x.Unify(q, doubled(x, types.Int, 500)) != api.ErrType {
		t.Error("unit")
	}
	wantShow(t, x, []string{"unit", "unit"}, a, b)
}

// Each open type is a pair of the next one twice.
func TestP1UnifyDoubledByOpenTypes(t *testing.T) {
	x := types.New()
	first, other := x.Var(), x.Var()
	a, b := first, other
	for range 300 {
		c, d := x.Var(), x.Var()
		p, _ := x.Pair(c, c)
		q, _ := x.Pair(d, d)
		if x.Unify(a, p) != api.OK || x.Unify(q, b) != api.OK {
			t.Fatal("Unify")
		}
		a, b = c, d
	}
	if x.Unify(first, other) != api.OK || x.Unify(a, first) != api.ErrType || x.Unify(other, b) != api.ErrType || x.Unify(a, types.Bool) != api.OK {
		t.Error("Unify")
	}
	wantShow(t, x, []string{"bool", "bool"}, a, b)
}

func TestP1ShowDoubled(t *testing.T) {
	x := types.New()
	l := x.Show(doubled(x, x.Var(), 16))
	if strings.Count(l[0], "'0") != 1<<16 || strings.Count(l[0], "'") != 1<<16 || strings.Count(l[0], ", ") != 1<<16-1 {
		t.Error(len(l[0]))
	}
}

func TestP1LongRows(t *testing.T) {
	const n = 200_000
	for name, unify := range map[string]func(x *types.Types, l []types.Type, i int) api.Errno{
		"up":      func(x *types.Types, l []types.Type, i int) api.Errno { return x.Unify(l[i-1], l[i]) },
		"up back": func(x *types.Types, l []types.Type, i int) api.Errno { return x.Unify(l[i], l[i-1]) },
		"down":    func(x *types.Types, l []types.Type, i int) api.Errno { return x.Unify(l[n-i], l[n-i-1]) },
		"first":   func(x *types.Types, l []types.Type, i int) api.Errno { return x.Unify(l[0], l[i]) },
		"to one":  func(x *types.Types, l []types.Type, i int) api.Errno { return x.Unify(l[i], l[0]) },
	} {
		x := types.New()
		var l []types.Type
		for range n {
			l = append(l, x.Var())
		}
		for i := 1; i < n; i++ {
			if e := unify(x, l, i); e != api.OK {
				t.Fatal(name, i, e)
			}
		}
		for i, s := range x.Show(l...) {
			if s != "'0" {
				t.Fatal(name, i, s)
			}
		}
		x.Unify(l[n/2], types.Unit)
		for i := range l {
			if s := x.Show(l[i]); s[0] != "unit" {
				t.Fatal(name, i, s)
			}
		}
	}
}
