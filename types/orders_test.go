package types_test

import (
	"math/rand"
	"slices"
	"strings"
	"testing"

	"whisper/api"
	"whisper/types"
)

// The tests of P10.2: unifications in several orders, and with both sides changed.

// orders is all orders of n things.
func orders(n int) [][]int {
	if n == 0 {
		return [][]int{nil}
	}
	var l [][]int
	for _, o := range orders(n - 1) {
		for at := range n {
			l = append(l, slices.Insert(slices.Clone(o), at, n-1))
		}
	}
	return l
}

// inOrder does unifications in an order; those whose bit is set in flip have their sides changed. It is the strings of the types, and whether there was an ErrType.
func inOrder(t *testing.T, build func() *types.Types, show []types.Type, do [][2]types.Type, order []int, flip int) ([]string, bool) {
	t.Helper()
	x := build()
	failed := false
	for _, i := range order {
		a, b := do[i][0], do[i][1]
		if flip>>i&1 == 1 {
			a, b = b, a
		}
		switch e := x.Unify(a, b); e {
		case api.OK:
		case api.ErrType:
			failed = true
		default:
			t.Fatalf("Unify(%d, %d): %v", a, b, e)
		}
	}
	return x.Show(show...), failed
}

// holdOrders wants the same strings of each order; a list that has an ErrType in one order has one in each.
func holdOrders(t *testing.T, build func() *types.Types, show []types.Type, do [][2]types.Type) ([]string, bool) {
	t.Helper()
	first := orders(len(do))[0]
	want, wantFail := inOrder(t, build, show, do, first, 0)
	for _, order := range orders(len(do)) {
		for flip := range 1 << len(do) {
			got, fail := inOrder(t, build, show, do, order, flip)
			if fail != wantFail || !fail && !slices.Equal(got, want) {
				t.Fatalf("%v in order %v, sides %b: %q, ErrType %v; want %q, %v", do, order, flip, got, fail, want, wantFail)
			}
		}
	}
	return want, wantFail
}

func TestP10_2Orders(t *testing.T) {
	for _, c := range []struct{ types, do, want string }{
		{"a | b | c | d", "a ~ b ; b ~ c ; c ~ d", "'0 | '0 | '0 | '0"},
		{"a | b | c | d", "a ~ b ; c ~ d", "'0 | '0 | '1 | '1"},
		{"a | b | c | d", "a ~ b ; b ~ c ; c ~ a ; d ~ d", "'0 | '0 | '0 | '1"},
		{"a | b | c | d | bool", "a ~ b ; c ~ d ; b ~ d ; a ~ bool", "bool | bool | bool | bool | bool"},
		{"a | b | c | (b, c) | (int, bool)", "a ~ (b, c) ; a ~ (int, bool)", "(int, bool) | int | bool | (int, bool) | (int, bool)"},
		{"a | b | c | (b, b) | (c, c) | unit", "a ~ (b, b) ; b ~ (c, c) ; c ~ unit", "((unit, unit), (unit, unit)) | (unit, unit) | unit | ((unit, unit), (unit, unit)) | (unit, unit) | unit"},
		{"(a, b) | (c, d) | (d, a) | (e, int)", "(a, b) ~ (c, d) ; (d, a) ~ (c, b)", "('0, '0) | ('0, '0) | ('0, '0) | ('1, int)"},
		{"(a, (b, c)) | (d, e) | (c, d)", "(a, (b, c)) ~ (d, e) ; e ~ (int, f) ; f ~ unit", "('0, (int, unit)) | ('0, (int, unit)) | (unit, '0)"},
	} {
		w := newWorld()
		var do [][2]types.Type
		show := w.all(t, c.types)
		for _, s := range strings.Split(c.do, " ; ") {
			a, b, _ := strings.Cut(s, " ~ ")
			do = append(do, [2]types.Type{w.of(t, a), w.of(t, b)})
		}
		again := func() *types.Types {
			w := newWorld()
			w.all(t, c.types)
			for _, s := range strings.Split(c.do, " ; ") {
				a, b, _ := strings.Cut(s, " ~ ")
				w.of(t, a)
				w.of(t, b)
			}
			return w.Types
		}
		got, fail := holdOrders(t, again, show, do)
		if fail || strings.Join(got, " | ") != c.want {
			t.Errorf("%s: %q, ErrType %v; want %s", c.do, got, fail, c.want)
		}
	}
}

// TestP10_2RandomOrders has types that are made by chance, and up to 4 unifications of them.
func TestP10_2RandomOrders(t *testing.T) {
	r := rand.New(rand.NewSource(4))
	fine, fails := 0, 0
	for range 2000 {
		w := newBoth()
		for range 6 {
			w.open(t)
		}
		for range 8 {
			w.pair(t, r.Intn(len(w.words)), r.Intn(len(w.words)))
		}
		seed := slices.Clone(w.words)
		again := func() *types.Types { return rebuild(seed) }
		var show []types.Type
		for range seed {
			show = append(show, types.Type(r.Intn(len(seed))))
		}
		var do [][2]types.Type
		for range 1 + r.Intn(4) {
			do = append(do, [2]types.Type{types.Type(r.Intn(len(seed))), types.Type(r.Intn(len(seed)))})
		}
		if _, fail := holdOrders(t, again, show, do); fail {
			fails++
		} else {
			fine++
		}
	}
	if fine < 300 || fails < 300 {
		t.Errorf("%d without an ErrType, %d with one", fine, fails)
	}
}

// rebuild makes types anew from their texts, of which the parts of a pair stand ahead of it, and no open one was unified.
func rebuild(l texts) *types.Types {
	x := types.New()
	for _, s := range l[3:] {
		if s[0] == '#' {
			x.Var()
			continue
		}
		p := parts(s)
		x.Pair(types.Type(slices.Index(l, p[0])), types.Type(slices.Index(l, p[1])))
	}
	return x
}

// TestP10_2Again has unifications that are done several times.
func TestP10_2Again(t *testing.T) {
	w := newWorld()
	l := w.all(t, "(a, (b, c)) | ((c, d), e) | e | a | (int, d)")
	var want []string
	for i := range 3 {
		if w.Unify(l[0], l[1]) != api.OK || w.Unify(l[3], l[4]) != api.OK {
			t.Errorf("time %d: Unify", i)
		}
		got := w.Show(l...)
		if i > 0 && !slices.Equal(got, want) {
			t.Errorf("time %d: %q, want %q", i, got, want)
		}
		want = got
	}
	if !slices.Equal(want, []string{"((int, '0), ('1, int))", "((int, '0), ('1, int))", "('1, int)", "(int, '0)", "(int, '0)"}) {
		t.Errorf("%q", want)
	}
}
