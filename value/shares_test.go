package value_test

import (
	"math/rand"
	"reflect"
	"slices"
	"testing"

	"whisper/api"
	"whisper/value"
)

// The tests of what is shared and what is kept: nothing.

// places is where the Kids of a value stand, and theirs, with what lies behind them.
func places(v value.Value) []*value.Value {
	var l []*value.Value
	whole := v.Kids[:cap(v.Kids)]
	for i := range whole {
		l = append(l, &whole[i])
	}
	for _, k := range v.Kids {
		l = append(l, places(k)...)
	}
	return l
}

// spoil changes all that can be reached from a value.
func spoil(v value.Value) {
	for _, k := range v.Kids {
		spoil(k)
	}
	for i := range v.Kids {
		v.Kids[i] = value.Value{Op: "spoilt", Int: 77, Kids: v.Kids[i].Kids}
	}
}

// copied is a value that is like another one and shares nothing with it.
func copied(v value.Value) value.Value {
	l := v.Kids
	v.Kids = nil
	for _, k := range l {
		v.Kids = append(v.Kids, copied(k))
	}
	return v
}

// calls is each op that gives a pair, or a part of one, with values that have some.
func calls() map[string][]value.Value {
	p := both(both(three, both(yes, unit)), both(zero, both(no, three)))
	return map[string][]value.Value{"fst": {p}, "snd": {p}, "pair": {p.Kids[0], p}}
}

func TestP12_2SharesNothing(t *testing.T) {
	for op, l := range calls() {
		v, e := value.Apply(op, l...)
		seen := map[*value.Value]int{}
		for _, at := range places(v) {
			if seen[at]++; seen[at] > 1 {
				t.Error(op, "two parts of the result are one")
			}
		}
		for _, a := range l {
			for _, at := range places(a) {
				if seen[at] > 0 {
					t.Error(op, "a part of the result is one of an argument")
				}
			}
		}
		if e != api.OK || len(seen) == 0 {
			t.Error(op, v, e)
		}
	}
}

func TestP12_2ChangedArguments(t *testing.T) {
	for op, l := range calls() {
		v, _ := value.Apply(op, l...)
		want := written(v)
		for i := range l {
			spoil(l[i])
			l[i] = value.Value{}
		}
		if written(v) != want {
			t.Errorf("%s: the result became %s", op, written(v))
		}
	}
}

func TestP12_2ChangedResult(t *testing.T) {
	for op, l := range calls() {
		var want []string
		for _, a := range l {
			want = append(want, written(a))
		}
		v, _ := value.Apply(op, l...)
		again, _ := value.Apply(op, l...)
		wantAgain := written(again)
		spoil(v)
		_ = append(v.Kids[:1], three, three)
		for i, a := range l {
			if written(a) != want[i] {
				t.Errorf("%s: an argument became %s", op, written(a))
			}
		}
		if written(again) != wantAgain {
			t.Errorf("%s: another result became %s", op, written(again))
		}
	}
}

// TestP12_2SameTwice has one value at both places, and one whose parts are one.
func TestP12_2SameTwice(t *testing.T) {
	p := both(both(zero, yes), unit)
	for op, l := range map[string][]value.Value{"pair": {p, p}, "fst": {both(both(p, p), p)}, "snd": {both(p, both(p, p))}} {
		v, _ := value.Apply(op, l...)
		if value.Show(v) != "(((0, true), ()), ((0, true), ()))" {
			t.Error(op, value.Show(v))
		}
		spoil(v.Kids[0])
		if value.Show(v.Kids[1]) != "((0, true), ())" || value.Show(p) != "((0, true), ())" {
			t.Error(op, "what was one is shared")
		}
	}
}

// TestP2 has random calls, some with what was given before; none changes its arguments, or hangs on those ahead of it.
func TestP2SameCalls(t *testing.T) {
	r := values{rand.New(rand.NewSource(4)), 15}
	type call struct {
		op  string
		l   []value.Value
		was []value.Value
		v   value.Value
		e   api.Errno
	}
	var all []call
	for range 3000 {
		c := call{op: ops[r.Intn(len(ops))]}
		for range 1 + r.Intn(2) {
			c.l = append(c.l, r.value(4))
			c.was = append(c.was, copied(c.l[len(c.l)-1]))
		}
		c.v, c.e = value.Apply(c.op, c.l...)
		all = append(all, c)
	}
	slices.Reverse(all)
	for _, c := range all {
		value.Show(c.l[0])
		value.Same(c.l[0], c.l[len(c.l)-1])
		v, e := value.Apply(c.op, c.l...)
		if e != c.e || written(v) != written(c.v) {
			t.Errorf("Apply(%q, %v): %v, %v, and then %v, %v", c.op, c.l, c.v, c.e, v, e)
		}
		for i, a := range c.l {
			if written(a) != written(c.was[i]) {
				t.Errorf("Apply(%q): an argument became %v", c.op, a)
			}
		}
	}
}

// TestP12_2BehindTheList has Kids, and a list of values, with something behind their lengths.
func TestP12_2BehindTheList(t *testing.T) {
	kids := []value.Value{three, both(yes, no), wrong, unit}
	p := value.Value{Op: "pair", Kids: kids[:2]}
	n := value.Value{Op: "int", Int: 8, Kids: kids[:0]}
	l := []value.Value{p, n, wrong, both(n, p)}
	was := []value.Value{copied(three), both(yes, no), copied(wrong), unit}
	for _, c := range []struct {
		op, want string
		n        int
	}{{"fst", "3", 1}, {"snd", "(true, false)", 1}, {"pair", "((3, (true, false)), 8)", 2}} {
		wantApply(t, c.want, api.OK, c.op, l[:c.n]...)
		v, _ := value.Apply(c.op, l[:c.n]...)
		_ = append(v.Kids, zero, zero, zero)
	}
	if !value.Right(p) || !value.Right(n) || !value.Same(n, value.Int(8)) || value.Show(both(n, p)) != "(8, (3, (true, false)))" {
		t.Error("what lies behind the Kids was read")
	}
	if !reflect.DeepEqual(kids, was) || written(l[2]) != written(wrong) || written(l[3]) != written(both(n, p)) {
		t.Error("what lies behind the Kids was written")
	}
}
