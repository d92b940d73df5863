package types_test

import (
	"math"
	"slices"
	"strconv"
	"strings"
	"testing"

	"whisper/api"
	"whisper/types"
)

// The tests of P10.1, each named after its call.

// world is types of which open ones have letters as names.
type world struct {
	*types.Types
	letters map[byte]types.Type
}

func newWorld() *world {
	return &world{types.New(), map[byte]types.Type{}}
}

// of is a type as written: int, bool, unit, a letter for an open type (the same letter is the same one), or a pair such as (int, a). Each pair is a new one.
func (w *world) of(t *testing.T, text string) types.Type {
	t.Helper()
	a, rest := w.read(t, text)
	if rest != "" {
		t.Fatalf("%q: %q is left", text, rest)
	}
	return a
}

func (w *world) read(t *testing.T, text string) (types.Type, string) {
	t.Helper()
	for name, a := range map[string]types.Type{"int": types.Int, "bool": types.Bool, "unit": types.Unit} {
		if rest, ok := strings.CutPrefix(text, name); ok {
			return a, rest
		}
	}
	if text[0] != '(' {
		if _, ok := w.letters[text[0]]; !ok {
			w.letters[text[0]] = w.Var()
		}
		return w.letters[text[0]], text[1:]
	}
	a, rest := w.read(t, text[1:])
	b, rest := w.read(t, strings.TrimPrefix(rest, ", "))
	p, e := w.Pair(a, b)
	if e != api.OK {
		t.Fatalf("%q: Pair(%d, %d): %v", text, a, b, e)
	}
	return p, strings.TrimPrefix(rest, ")")
}

// all reads types that have a bar between each two.
func (w *world) all(t *testing.T, texts string) []types.Type {
	t.Helper()
	var l []types.Type
	for _, s := range strings.Split(texts, " | ") {
		l = append(l, w.of(t, s))
	}
	return l
}

func wantShow(t *testing.T, x *types.Types, want []string, l ...types.Type) {
	t.Helper()
	if got := x.Show(l...); !slices.Equal(got, want) {
		t.Errorf("Show(%v): %q, want %q", l, got, want)
	}
}

// missing is numbers that are no types, where next is the first one that isn't there yet.
func missing(next types.Type) []types.Type {
	return []types.Type{math.MinInt, math.MinInt + 1, -4, -3, -2, -1, next, next + 1, next + 3, 1 << 32, 1<<32 + 1, math.MaxInt - 3, math.MaxInt}
}

func TestP10_1Constants(t *testing.T) {
	if types.Int != 0 || types.Bool != 1 || types.Unit != 2 {
		t.Error(types.Int, types.Bool, types.Unit)
	}
}

func TestP10_1New(t *testing.T) {
	x := types.New()
	wantShow(t, x, []string{"int", "bool", "unit", ""}, 0, 1, 2, 3)
	wantShow(t, x, []string{"unit", "int", "bool"}, types.Unit, types.Int, types.Bool)
	if types.New() == x {
		t.Error("New returns the same types again")
	}
}

func TestP10_1ZeroTypes(t *testing.T) {
	var x types.Types
	wantShow(t, &x, []string{"int", "bool", "unit", ""}, 0, 1, 2, 3)
	if a := x.Var(); a != 3 {
		t.Error(a)
	}
}

func TestP10_1Numbers(t *testing.T) {
	x := types.New()
	for want := types.Type(3); want < 60; {
		if a := x.Var(); a != want {
			t.Fatalf("Var: %d, want %d", a, want)
		}
		wantShow(t, x, []string{"'0", ""}, want, want+1)
		want++
		for range want % 4 {
			if p, e := x.Pair(want-1, types.Bool); p != want || e != api.OK {
				t.Fatalf("Pair: %d %v, want %d", p, e, want)
			}
			want++
		}
	}
}

func TestP10_1UnifyAndShowAddNoNumber(t *testing.T) {
	w := newWorld()
	l := w.all(t, "a | (a, (b, int)) | (bool, c)")
	next := l[2] + 1
	for _, a := range l {
		for _, b := range append(l, -1, next, types.Int) {
			w.Unify(a, b)
			w.Show(a, b)
		}
	}
	if a := w.Var(); a != next {
		t.Errorf("Var: %d, want %d", a, next)
	}
}

func TestP10_1PairsOfEachKind(t *testing.T) {
	kinds := map[string]string{"int": "int", "bool": "bool", "unit": "unit", "a": "'0", "(bool, unit)": "(bool, unit)", "((unit, int), (int, bool))": "((unit, int), (int, bool))"}
	for first, want1 := range kinds {
		for second, want2 := range kinds {
			w := newWorld()
			a, b := w.of(t, first), w.of(t, second)
			p, e := w.Pair(a, b)
			if e != api.OK || p <= b {
				t.Errorf("%s, %s: %d, %v", first, second, p, e)
			}
			wantShow(t, w.Types, []string{"(" + want1 + ", " + want2 + ")", want1, want2}, p, a, b)
		}
	}
}

func TestP10_1PairOfTheSameTwice(t *testing.T) {
	w := newWorld()
	a := w.of(t, "(a, b)")
	p, _ := w.Pair(a, a)
	q, _ := w.Pair(a, a)
	if p == q {
		t.Error("two pairs have one number")
	}
	wantShow(t, w.Types, []string{"(('0, '1), ('0, '1))", "(('0, '1), ('0, '1))"}, p, q)
}

func TestP10_1PairOfMissing(t *testing.T) {
	for _, text := range []string{"int", "a", "(a, int)", "((int, bool), (a, b))"} {
		w := newWorld()
		a := w.of(t, text)
		next := max(a+1, 3)
		for _, no := range missing(next) {
			for _, l := range [][2]types.Type{{a, no}, {no, a}, {no, no}, {types.Unit, no}, {no, types.Int}} {
				if p, e := w.Pair(l[0], l[1]); p != 0 || e != api.ErrArg {
					t.Errorf("%s: Pair(%d, %d): %d %v", text, l[0], l[1], p, e)
				}
			}
		}
		if b := w.Var(); b != next {
			t.Errorf("%s: a Pair that failed added a number: %d, want %d", text, b, next)
		}
	}
}

func TestP10_1UnifyMissing(t *testing.T) {
	for _, text := range []string{"int", "bool", "unit", "a", "(a, int)", "((int, bool), (a, b))"} {
		w := newWorld()
		a := w.of(t, text)
		next := max(a+1, 3)
		was := w.Show(a)
		for _, no := range missing(next) {
			for _, l := range [][2]types.Type{{a, no}, {no, a}, {no, no}} {
				if e := w.Unify(l[0], l[1]); e != api.ErrArg {
					t.Errorf("%s: Unify(%d, %d): %v", text, l[0], l[1], e)
				}
			}
		}
		wantShow(t, w.Types, was, a)
	}
}

// unified is unifications, one after the other, what each of them returns, and what some types are then. T is ErrType.
var unified = []struct{ do, errs, show, want string }{
	// A type with itself.
	{"int ~ int", ".", "int", "int"},
	{"bool ~ bool", ".", "bool", "bool"},
	{"unit ~ unit", ".", "unit", "unit"},
	{"a ~ a", ".", "a", "'0"},
	{"(a, b) ~ (a, b)", ".", "(a, b)", "('0, '1)"},
	{"((a, b), a) ~ ((a, b), a)", ".", "b | a", "'0 | '1"},

	// An open type with each kind.
	{"a ~ int", ".", "a | (a, b)", "int | (int, '0)"},
	{"int ~ a", ".", "a | (b, a)", "int | ('0, int)"},
	{"a ~ bool", ".", "a", "bool"},
	{"bool ~ a", ".", "a", "bool"},
	{"a ~ unit", ".", "a", "unit"},
	{"unit ~ a", ".", "a", "unit"},
	{"a ~ (b, int)", ".", "a | b", "('0, int) | '0"},
	{"(b, int) ~ a", ".", "a | b", "('0, int) | '0"},
	{"a ~ b", ".", "a | b | c | (b, a)", "'0 | '0 | '1 | ('0, '0)"},
	{"b ~ a", ".", "a | b | c | (b, a)", "'0 | '0 | '1 | ('0, '0)"},
	{"a ~ int ; b ~ bool", "..", "a | b | int | bool", "int | bool | int | bool"},

	// Pairs, and within pairs.
	{"(int, bool) ~ (int, bool)", ".", "int", "int"},
	{"(a, bool) ~ (int, b)", ".", "a | b", "int | bool"},
	{"(int, b) ~ (a, bool)", ".", "a | b", "int | bool"},
	{"(a, b) ~ (b, c)", ".", "a | b | c", "'0 | '0 | '0"},
	{"(a, a) ~ (int, b)", ".", "a | b", "int | int"},
	{"(b, a) ~ (a, unit)", ".", "a | b", "unit | unit"},
	{"((a, int), b) ~ ((bool, c), (a, c))", ".", "a | b | c", "bool | (bool, int) | int"},
	{"(a, (b, c)) ~ ((b, c), a)", ".", "a | b | c", "('0, '1) | '0 | '1"},
	{"(a, (a, b)) ~ ((c, c), (b, (int, int)))", ".", "a | b | c", "(int, int) | (int, int) | int"},

	// What was unified before.
	{"a ~ int ; a ~ int", "..", "a", "int"},
	{"a ~ int ; a ~ bool", ".T", "a", "int"},
	{"a ~ int ; bool ~ a", ".T", "a", "int"},
	{"a ~ b ; b ~ int ; a ~ int", "...", "a | b", "int | int"},
	{"a ~ b ; b ~ int ; a ~ unit", "..T", "a | b", "int | int"},
	{"a ~ b ; a ~ int ; b ~ unit", "..T", "a | b", "int | int"},
	{"a ~ b ; c ~ d ; b ~ c ; d ~ (e, e)", "....", "a | b | c | d | e", "('0, '0) | ('0, '0) | ('0, '0) | ('0, '0) | '0"},
	{"a ~ (b, c) ; a ~ (int, bool)", "..", "a | b | c", "(int, bool) | int | bool"},
	{"a ~ (b, c) ; d ~ (int, bool) ; d ~ a", "...", "a | b | c | d", "(int, bool) | int | bool | (int, bool)"},
	{"a ~ (b, c) ; a ~ int", ".T", "a", "('0, '1)"},
	{"a ~ (b, c) ; b ~ c ; c ~ unit", "...", "a", "(unit, unit)"},

	// Where an open type occurs in the other one.
	{"a ~ (a, int)", "T", "a", "'0"},
	{"a ~ (int, a)", "T", "a", "'0"},
	{"(int, a) ~ a", "T", "a", "'0"},
	{"(a, a) ~ a", "T", "a", "'0"},
	{"a ~ (int, (bool, (b, a)))", "T", "a | b", "'0 | '1"},
	{"((((a, b), c), int), int) ~ a", "T", "a", "'0"},
	{"b ~ a ; a ~ (int, b)", ".T", "a | b", "'0 | '0"},
	{"b ~ (a, int) ; a ~ (b, int)", ".T", "a | b", "'0 | ('0, int)"},
	{"b ~ (a, int) ; a ~ b", ".T", "a | b", "'0 | ('0, int)"},
	{"b ~ (a, int) ; b ~ a", ".T", "a | b", "'0 | ('0, int)"},
	{"b ~ (int, c) ; c ~ (a, a) ; d ~ b ; a ~ (unit, d)", "...T", "a | d", "'0 | (int, ('0, '0))"},
	{"(a, b) ~ (b, (a, int))", "T", "a | b", "'0 | '0"},
	{"(a, b) ~ ((b, int), (a, int))", "T", "a | b", "('0, int) | '0"},
	{"(a, a) ~ (b, (b, b))", "T", "a | b", "'0 | '0"},
	{"a ~ (b, c) ; a ~ (b, c)", "..", "a", "('0, '1)"},

	// What can't be unified.
	{"int ~ bool", "T", "int | bool", "int | bool"},
	{"bool ~ int", "T", "int | bool", "int | bool"},
	{"int ~ unit", "T", "int | unit", "int | unit"},
	{"unit ~ int", "T", "int | unit", "int | unit"},
	{"bool ~ unit", "T", "bool | unit", "bool | unit"},
	{"unit ~ bool", "T", "bool | unit", "bool | unit"},
	{"(a, b) ~ int", "T", "a | b | int", "'0 | '1 | int"},
	{"int ~ (a, b)", "T", "a | b | int", "'0 | '1 | int"},
	{"(a, b) ~ bool", "T", "a | b | bool", "'0 | '1 | bool"},
	{"bool ~ (int, int)", "T", "bool", "bool"},
	{"(unit, unit) ~ unit", "T", "unit", "unit"},
	{"unit ~ (unit, unit)", "T", "unit", "unit"},
	{"(int, int) ~ (int, bool)", "T", "int | bool", "int | bool"},
	{"(int, int) ~ (bool, int)", "T", "int | bool", "int | bool"},
	{"((int, a), b) ~ (int, b)", "T", "a | b", "'0 | '1"},

	// What comes ahead of an ErrType is unified, what comes behind it isn't.
	{"(a, int) ~ (bool, bool)", "T", "a", "bool"},
	{"(int, a) ~ (bool, bool)", "T", "a", "'0"},
	{"(a, (int, b)) ~ (c, (unit, int))", "T", "a | b | c", "'0 | '1 | '0"},
	{"((a, b), (c, d)) ~ ((int, bool), (unit, (d, d)))", "T", "a | b | c | d", "int | bool | unit | '0"},
	{"((a, int), c) ~ ((unit, unit), int)", "T", "a | c", "unit | '0"},
	{"(a, a) ~ (int, bool)", "T", "a", "int"},
	{"(a, a) ~ (int, bool) ; a ~ bool ; a ~ int", "TT.", "a", "int"},
	{"(a, int) ~ (b, unit) ; b ~ bool", "T.", "a | b", "bool | bool"},
}

func TestP10_1Unify(t *testing.T) {
	for _, c := range unified {
		w := newWorld()
		var errs string
		for _, do := range strings.Split(c.do, " ; ") {
			a, b, _ := strings.Cut(do, " ~ ")
			errs += map[api.Errno]string{api.OK: ".", api.ErrType: "T"}[w.Unify(w.of(t, a), w.of(t, b))]
		}
		if errs != c.errs {
			t.Errorf("%s: %s, want %s", c.do, errs, c.errs)
		}
		if got := strings.Join(w.Show(w.all(t, c.show)...), " | "); got != c.want {
			t.Errorf("%s: %s: %s, want %s", c.do, c.show, got, c.want)
		}
		wantShow(t, w.Types, []string{"int", "bool", "unit"}, 0, 1, 2)
	}
}

func TestP10_1UnifyTheSameNumber(t *testing.T) {
	w := newWorld()
	l := w.all(t, "int | bool | unit | a | (a, b) | (int, (a, int))")
	for _, a := range l {
		was := w.Show(l...)
		if e := w.Unify(a, a); e != api.OK {
			t.Errorf("Unify(%d, %d): %v", a, a, e)
		}
		wantShow(t, w.Types, was, l...)
	}
}

func TestP10_1UnifyWithinEarlierPairs(t *testing.T) {
	w := newWorld()
	l := w.all(t, "((a, b), (b, (c, a))) | (b, b) | (c, int) | a | b | c")
	wantShow(t, w.Types, []string{"(('0, '1), ('1, ('2, '0)))", "('1, '1)", "('2, int)", "'0", "'1", "'2"}, l...)
	w.Unify(w.of(t, "b"), w.of(t, "(bool, a)"))
	wantShow(t, w.Types, []string{"(('0, (bool, '0)), ((bool, '0), ('1, '0)))", "((bool, '0), (bool, '0))", "('1, int)", "'0", "(bool, '0)", "'1"}, l...)
	w.Unify(types.Unit, w.of(t, "a"))
	wantShow(t, w.Types, []string{"((unit, (bool, unit)), ((bool, unit), ('0, unit)))", "((bool, unit), (bool, unit))", "('0, int)", "unit", "(bool, unit)", "'0"}, l...)
}

// A pair of an open type that is unified later stays apart from pairs that were alike.
func TestP10_1PairsThatAreApart(t *testing.T) {
	w := newWorld()
	p, q, r := w.of(t, "(a, b)"), w.of(t, "(c, d)"), w.of(t, "(e, int)")
	if w.Unify(p, q) != api.OK || w.Unify(q, w.of(t, "(f, bool)")) != api.OK || w.Unify(r, p) != api.ErrType {
		t.Error("Unify")
	}
	wantShow(t, w.Types, []string{"('0, bool)", "('0, bool)", "('0, int)"}, p, q, r)
	if w.Unify(w.of(t, "e"), types.Unit) != api.OK {
		t.Error("e isn't what a is by now")
	}
	wantShow(t, w.Types, []string{"(unit, bool)", "(unit, bool)", "(unit, int)"}, p, q, r)
}

func TestP10_1Show(t *testing.T) {
	w := newWorld()
	a := w.of(t, "a")
	b := w.of(t, "b")
	if l := w.Show(); len(l) != 0 {
		t.Errorf("Show(): %q", l)
	}
	if l := w.Show([]types.Type{}...); len(l) != 0 {
		t.Errorf("Show of an empty list: %q", l)
	}
	wantShow(t, w.Types, []string{"int"}, types.Int)
	wantShow(t, w.Types, []string{"unit", "unit", "bool", "int"}, types.Unit, types.Unit, types.Bool, types.Int)
	wantShow(t, w.Types, []string{"'0"}, a)
	wantShow(t, w.Types, []string{"'0"}, b)
	wantShow(t, w.Types, []string{"'0", "'1"}, b, a)
	wantShow(t, w.Types, []string{"'0", "'1", "'0", "'1", "'1"}, b, a, b, a, a)
	wantShow(t, w.Types, []string{"(('0, '1), '0)", "('1, ('0, '2))", "'3"}, w.all(t, "((a, b), a) | (b, (a, c)) | d")...)
	wantShow(t, w.Types, []string{"'0", "(('1, '2), '1)", "('2, ('1, '0))"}, w.all(t, "c | ((a, b), a) | (b, (a, c))")...)
	wantShow(t, w.Types, []string{"(int, (bool, (unit, int)))", "(((unit, int), bool), unit)"}, w.all(t, "(int, (bool, (unit, int))) | (((unit, int), bool), unit)")...)
}

func TestP10_1ShowMany(t *testing.T) {
	x := types.New()
	p := x.Var()
	want := "'0"
	for i := 1; i < 120; i++ {
		p, _ = x.Pair(p, x.Var())
		want = "(" + want + ", '" + strconv.Itoa(i) + ")"
	}
	wantShow(t, x, []string{want}, p)
}

func TestP10_1ShowMissing(t *testing.T) {
	w := newWorld()
	a, b, p := w.of(t, "a"), w.of(t, "b"), w.of(t, "(b, a)")
	for _, no := range missing(p + 1) {
		wantShow(t, w.Types, []string{""}, no)
		wantShow(t, w.Types, []string{"'0", "", "('1, '0)", "", "", "'1"}, a, no, p, no, no, b)
		wantShow(t, w.Types, []string{"", "'0", ""}, no, b, no)
	}
	wantShow(t, types.New(), []string{"", "", "", "", "", "", "", "", "", "", "", "", ""}, missing(3)...)
}

func TestP10_1ShowUnified(t *testing.T) {
	w := newWorld()
	l := w.all(t, "a | b | c | d | (a, (b, (c, d)))")
	w.Unify(l[1], l[3])
	wantShow(t, w.Types, []string{"'0", "'1", "'2", "'1", "('0, ('1, ('2, '1)))"}, l...)
	wantShow(t, w.Types, []string{"('0, ('1, ('2, '1)))", "'1", "'2"}, l[4], l[3], l[2])
	w.Unify(l[0], l[3])
	wantShow(t, w.Types, []string{"'0", "'0", "'1", "'0", "('0, ('0, ('1, '0)))"}, l...)
	w.Unify(l[1], types.Bool)
	wantShow(t, w.Types, []string{"bool", "bool", "'0", "bool", "(bool, (bool, ('0, bool)))"}, l...)
}

func TestP10_1NilTypes(t *testing.T) {
	var x *types.Types
	if a := x.Var(); a != 0 {
		t.Error("Var:", a)
	}
	for _, a := range append(missing(3), 0, 1, 2) {
		for _, b := range append(missing(3), 0, 1, 2) {
			if p, e := x.Pair(a, b); p != 0 || e != api.ErrArg {
				t.Errorf("Pair(%d, %d): %d %v", a, b, p, e)
			}
			if e := x.Unify(a, b); e != api.ErrArg {
				t.Errorf("Unify(%d, %d): %v", a, b, e)
			}
			wantShow(t, x, []string{"", ""}, a, b)
		}
	}
	if l := x.Show(); len(l) != 0 {
		t.Errorf("Show(): %q", l)
	}
}

func TestRule3ShowsArguments(t *testing.T) {
	w := newWorld()
	l := w.all(t, "a | (a, int) | b | bool")
	was := slices.Clone(l)
	got := w.Show(l[:2]...)
	if !slices.Equal(l, was) {
		t.Errorf("Show changes its argument: %v, was %v", l, was)
	}
	l[0] = types.Unit
	other := w.Show(was[:2]...)
	got[0] = "x"
	if !slices.Equal(other, []string{"'0", "('0, int)"}) {
		t.Errorf("results are shared: %q", other)
	}
}

func TestP2Apart(t *testing.T) {
	v, w := newWorld(), newWorld()
	a, b := v.all(t, "(a, b) | c"), w.all(t, "(a, b) | c")
	if !slices.Equal(a, b) {
		t.Errorf("%v, and %v", a, b)
	}
	if v.Unify(a[0], a[1]) != api.OK || v.Unify(a[0]-1, types.Int) != api.OK {
		t.Error("Unify")
	}
	wantShow(t, v.Types, []string{"('0, int)", "('0, int)"}, a...)
	wantShow(t, w.Types, []string{"('0, '1)", "'2"}, b...)
	wantShow(t, w.Types, []string{"('0, '1)", "'2"}, b...)
}
