package value_test

import (
	"strings"
	"testing"

	"whisper/api"
	"whisper/value"
)

// The tests of pairs with as many values as they may have, and those of P1, with values that are nested deep, that share their parts, or that are parts of themselves.

// The ways in which a value with some number of leaves may be nested.
var nestings = map[string]func(leaves int) value.Value{
	"left": func(leaves int) value.Value {
		v := zero
		for range leaves - 1 {
			v = both(v, yes)
		}
		return v
	},
	"right": func(leaves int) value.Value {
		v := zero
		for range leaves - 1 {
			v = both(unit, v)
		}
		return v
	},
	"even": func(leaves int) value.Value {
		l := make([]value.Value, leaves)
		for i := range l {
			l[i] = value.Int(int64(i))
		}
		for len(l) > 1 {
			l = append(l[2:], both(l[0], l[1]))
		}
		return l[0]
	},
}

// TestP12_2MaxParts has pairs of about a thousand values. A value has one pair less than it has leaves, so that none has an even number of values: next to each other are 999, which may be, and 1001.
func TestP12_2MaxParts(t *testing.T) {
	if value.MaxParts != 1000 {
		t.Error(value.MaxParts)
	}
	for name, nest := range nestings {
		for other, nestOther := range nestings {
			for _, leaves := range []int{2, 3, 100, 498, 499, 500, 501, 502, 503, 999, 1000, 1001, 1002} {
				for _, first := range []int{1, 2, 50, leaves / 2, leaves/2 + 1, leaves - 50, leaves - 1} {
					if first < 1 || first >= leaves {
						continue
					}
					a, b := nest(first), nestOther(leaves-first)
					p, e := value.Apply("pair", a, b)
					if 2*leaves-1 > 1000 {
						if e != api.ErrLimit || !isZero(p) {
							t.Errorf("%s, %s: a pair of %d values: %v", name, other, 2*leaves-1, e)
						}
						continue
					}
					if e != api.OK || !value.Same(p, both(a, b)) || !value.Right(p) {
						t.Errorf("%s, %s: a pair of %d values: %v", name, other, 2*leaves-1, e)
					}
				}
			}
		}
	}
}

// TestP12_2MaxPartsIsOfPair has values that no pair of Apply can be, with the other ops, which don't count.
func TestP12_2MaxPartsIsOfPair(t *testing.T) {
	for name, nest := range nestings {
		v := nest(5000)
		if !value.Right(v) || !value.Same(v, nest(5000)) || value.Same(v, nest(5001)) || strings.Count(value.Show(v), ",") != 4999 {
			t.Error(name)
		}
		for op, want := range map[string]value.Value{"fst": v.Kids[0], "snd": v.Kids[1]} {
			if got, e := value.Apply(op, v); e != api.OK || !value.Same(got, want) {
				t.Error(name, op, e)
			}
		}
		wantApply(t, "", api.ErrType, "neg", v)
		wantApply(t, "", api.ErrType, "=", v, v)
		wantApply(t, "", api.ErrType, "pair", v)
		wantApply(t, "", api.ErrType, "pair", v, v, v)
		wantApply(t, "", api.ErrArg, "pair", v, wrong)
		wantApply(t, "", api.ErrLimit, "pair", v, zero)
		wantApply(t, "", api.ErrLimit, "pair", zero, v)
	}
}

const deep = 200_000

// nested is a pair with a value at the bottom of so many pairs.
func nested(v value.Value, n int, left bool) value.Value {
	for range n {
		if left {
			v = both(v, three)
		} else {
			v = both(three, v)
		}
	}
	return v
}

func TestP1Deep(t *testing.T) {
	for _, left := range []bool{true, false} {
		a, b, c, d := nested(zero, deep, left), nested(zero, deep, left), nested(unit, deep, left), nested(wrong, deep, left)
		if !value.Right(a) || !value.Right(c) || value.Right(d) || value.Show(d) != "?" {
			t.Error("Right", left)
		}
		if !value.Same(a, b) || value.Same(a, c) || !value.Same(d, d) || value.Same(d, c) {
			t.Error("Same", left)
		}
		want := strings.Repeat("(", deep) + "()" + strings.Repeat(", 3)", deep)
		if !left {
			want = strings.Repeat("(3, ", deep) + "()" + strings.Repeat(")", deep)
		}
		if value.Show(c) != want {
			t.Error("Show", left)
		}
		for op, wantErr := range map[string]api.Errno{"pair": api.ErrLimit, "=": api.ErrType, "fst": api.ErrType} {
			wantApply(t, "", wantErr, op, a, b)
			wantApply(t, "", api.ErrArg, op, a, d)
		}
		op := map[bool]string{true: "fst", false: "snd"}[left]
		if v, e := value.Apply(op, a); e != api.OK || !value.Same(v, nested(zero, deep-1, left)) {
			t.Error(op, e)
		}
	}
	var v value.Value
	for range deep {
		v = value.Value{Op: "x", Kids: []value.Value{v}}
	}
	if value.Right(v) || value.Show(v) != "?" || !value.Same(v, v) {
		t.Error("a deep value that isn't valid")
	}
}

// doubled is a pair whose parts are both the same, and so on: it stands for 2 to the power of n values.
func doubled(v value.Value, n int) value.Value {
	for range n {
		v = both(v, v)
	}
	return v
}

func TestP1Shared(t *testing.T) {
	a, b, c, d := doubled(zero, 200), doubled(zero, 200), doubled(unit, 200), doubled(wrong, 200)
	if !value.Right(a) || value.Right(d) || value.Right(both(a, d)) || value.Show(d) != "?" {
		t.Error("Right")
	}
	if !value.Same(a, a) || !value.Same(a, b) || value.Same(a, c) || !value.Same(d, d) || value.Same(a, doubled(zero, 201)) {
		t.Error("Same")
	}
	wantApply(t, "", api.ErrLimit, "pair", a, b)
	wantApply(t, "", api.ErrLimit, "pair", zero, b)
	wantApply(t, "", api.ErrArg, "pair", a, d)
	wantApply(t, "", api.ErrType, "+", a, b)
	wantApply(t, "", api.ErrType, "x", a)
	wantApply(t, "5", api.OK, "snd", both(a, value.Int(5)))
	small := doubled(zero, 8)
	p, e := value.Apply("pair", small, doubled(zero, 7))
	if e != api.OK || !value.Right(p) || value.Show(p) != "("+value.Show(small)+", "+value.Show(doubled(zero, 7))+")" {
		t.Error(p, e)
	}
	wantApply(t, "", api.ErrLimit, "pair", small, small)
}

// looped is a pair that is a part of its own parts, so many pairs below it.
func looped(n int) value.Value {
	kids := make([]value.Value, 2)
	v := nested(value.Value{Op: "pair", Kids: kids}, n, true)
	kids[0], kids[1] = v, zero
	return v
}

// TestP1PartOfItself has values that are no end of pairs within pairs, none of which is ever made of two valid ones.
func TestP1PartOfItself(t *testing.T) {
	for n := range 5 {
		v, w := looped(n), looped(n+1)
		if value.Right(v) || value.Right(both(v, zero)) || value.Right(both(zero, v)) || value.Show(v) != "?" || value.Show(both(zero, v)) != "?" {
			t.Error(n, "Right")
		}
		if !value.Same(v, v) || !value.Same(v, looped(n)) || value.Same(v, zero) || value.Same(v, both(v, v)) || value.Same(v, both(yes, yes)) {
			t.Error(n, "Same")
		}
		value.Same(v, w)
		for _, op := range ops {
			wantApply(t, "", api.ErrArg, op, v)
			wantApply(t, "", api.ErrArg, op, v, v)
			wantApply(t, "", api.ErrArg, op, zero, w)
		}
	}
	x := make([]value.Value, 3)
	for i := range x {
		x[i] = value.Value{Op: "x", Kids: x}
	}
	if value.Right(x[0]) || value.Show(x[0]) != "?" || !value.Same(x[0], x[1]) {
		t.Error("a value that isn't a pair")
	}
}

// TestP12_1OverlappingKids has lists of Kids that begin at the same place, but aren't the same lists.
func TestP12_1OverlappingKids(t *testing.T) {
	a, b := []value.Value{zero, yes, unit}, []value.Value{zero, yes, three}
	x := func(l []value.Value) value.Value { return value.Value{Op: "x", Kids: l} }
	lists := func(l []value.Value) value.Value { return x([]value.Value{x(l[:1]), x(l[:2]), x(l), x(l[:2])}) }
	back := func(l []value.Value) value.Value { return x([]value.Value{x(l[:2]), x(l), x(l[:2]), x(l[:1])}) }
	if value.Same(lists(a), lists(b)) || value.Same(back(a), back(b)) || !value.Same(lists(a), lists(a)) || value.Same(lists(a), back(a)) {
		t.Error("Same")
	}
	if !value.Same(x(a[:2]), x(b[:2])) {
		t.Error("Same, of the Kids ahead of those that differ")
	}
	p := value.Value{Op: "pair", Kids: a[:2]}
	for _, c := range []struct {
		v    value.Value
		want string
	}{
		{both(p, p), "((0, true), (0, true))"}, {both(p, value.Value{Op: "pair", Kids: a[1:]}), "((0, true), (true, ()))"},
		{both(p, value.Value{Op: "pair", Kids: a}), "?"}, {both(value.Value{Op: "pair", Kids: a[:1]}, p), "?"}, {both(p, value.Value{Op: "int", Kids: a[:2]}), "?"},
	} {
		if value.Show(c.v) != c.want || value.Right(c.v) != (c.want != "?") {
			t.Errorf("Show(%v) is %q", c.v, value.Show(c.v))
		}
	}
}
