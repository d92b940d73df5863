package value_test

import (
	"math"
	"reflect"
	"testing"

	"whisper/api"
	"whisper/value"
)

// The tests of P12.1 and P12.2, with tables of written values.

// both is a pair that is made by hand, whatever its parts are.
func both(a, b value.Value) value.Value {
	return value.Value{Op: "pair", Kids: []value.Value{a, b}}
}

var (
	zero  = value.Int(0)
	three = value.Int(3)
	yes   = value.Bool(true)
	no    = value.Bool(false)
	unit  = value.Unit()
	wrong = value.Value{Op: "int", Kids: []value.Value{value.Int(1)}}
)

func TestP12_1Makers(t *testing.T) {
	for _, c := range []struct{ got, want value.Value }{
		{value.Int(0), value.Value{Op: "int"}},
		{value.Int(7), value.Value{Op: "int", Int: 7}},
		{value.Int(-7), value.Value{Op: "int", Int: -7}},
		{value.Int(math.MaxInt64), value.Value{Op: "int", Int: math.MaxInt64}},
		{value.Int(math.MinInt64), value.Value{Op: "int", Int: math.MinInt64}},
		{value.Bool(true), value.Value{Op: "true"}},
		{value.Bool(false), value.Value{Op: "false"}},
		{value.Unit(), value.Value{Op: "unit"}},
	} {
		if c.got.Op != c.want.Op || c.got.Int != c.want.Int || len(c.got.Kids) > 0 {
			t.Errorf("%v, want %v", c.got, c.want)
		}
		if !value.Right(c.got) {
			t.Errorf("%v isn't Right", c.got)
		}
	}
}

// TestP12_1Right has each Op with two numbers, and with each number of Kids.
func TestP12_1Right(t *testing.T) {
	for _, op := range []string{"int", "true", "false", "unit", "pair", "", "bool", "Int", "int ", "pairs", "neg", "+", "()", "set", "?"} {
		for _, n := range []int64{0, 1, -1, math.MaxInt64, math.MinInt64} {
			for kids := range 5 {
				v := value.Value{Op: op, Int: n, Kids: []value.Value{three, yes, unit, zero}[:kids]}
				want := false
				switch op {
				case "int":
					want = kids == 0
				case "true", "false", "unit":
					want = n == 0 && kids == 0
				case "pair":
					want = n == 0 && kids == 2
				}
				if value.Right(v) != want {
					t.Errorf("Right(%v) isn't %v", v, want)
				}
			}
			if v := (value.Value{Op: op, Int: n}); value.Right(v) && (op == "pair" || n != 0 && op != "int") {
				t.Errorf("Right(%v), with nil Kids", v)
			}
		}
	}
}

// TestP12_1RightParts has a part that isn't valid at each place of pairs within pairs.
func TestP12_1RightParts(t *testing.T) {
	for _, part := range []value.Value{
		{}, wrong, {Op: "pair"}, {Op: "pair", Kids: []value.Value{zero}}, {Op: "pair", Kids: []value.Value{zero, zero, zero}},
		{Op: "true", Int: 1}, {Op: "unit", Int: -1}, {Op: "num"}, {Op: "pair", Int: 1, Kids: []value.Value{zero, zero}},
	} {
		for deep := range 6 {
			for places := range 1 << deep {
				v, w := part, value.Value(zero)
				for i := range deep {
					if places>>i&1 == 0 {
						v, w = both(v, three), both(w, three)
					} else {
						v, w = both(three, v), both(three, w)
					}
				}
				if value.Right(v) {
					t.Errorf("Right(%v)", v)
				}
				if value.Show(v) != "?" {
					t.Errorf("Show(%v) is %q", v, value.Show(v))
				}
				if !value.Right(w) {
					t.Errorf("%v isn't Right", w)
				}
			}
		}
	}
}

func TestP12_1Same(t *testing.T) {
	l := []value.Value{
		zero, three, value.Int(-3), yes, no, unit, {}, {Op: "pair"}, {Op: "x"}, {Op: "true", Int: 1}, {Int: 1}, wrong,
		both(zero, three), both(three, zero), both(zero, zero), both(three, three), both(yes, zero), both(both(zero, three), three), both(zero, both(three, three)),
		{Op: "pair", Int: 1, Kids: []value.Value{zero, three}}, {Op: "pair", Kids: []value.Value{zero}}, {Op: "pair", Kids: []value.Value{zero, three, three}},
		{Op: "x", Kids: []value.Value{zero, three}}, {Op: "x", Kids: []value.Value{{Op: "x"}}}, {Op: "x", Kids: []value.Value{{Op: "x", Kids: []value.Value{{}}}}},
	}
	for i, a := range l {
		for k, b := range l {
			if value.Same(a, b) != (i == k) {
				t.Errorf("Same(%v, %v) is %v", a, b, i != k)
			}
			deepA, deepB := both(unit, both(both(a, yes), no)), both(unit, both(both(b, yes), no))
			if value.Same(deepA, deepB) != (i == k) {
				t.Errorf("Same(%v, %v) is %v", deepA, deepB, i != k)
			}
		}
	}
}

// TestP12_1SameAtEachPlace has values that differ in one place, ahead of parts that are one, behind them, and between them.
func TestP12_1SameAtEachPlace(t *testing.T) {
	p := both(zero, yes)
	for place := range 5 {
		a, b := []value.Value{p, p, p, p, p}, []value.Value{p, p, p, p, p}
		if !value.Same(value.Value{Op: "x", Kids: a}, value.Value{Op: "x", Kids: b}) {
			t.Error("alike, but not the same")
		}
		b[place] = both(zero, no)
		if value.Same(value.Value{Op: "x", Kids: a}, value.Value{Op: "x", Kids: b}) {
			t.Error(place)
		}
		b[place] = unit
		if value.Same(value.Value{Op: "x", Kids: a}, value.Value{Op: "x", Kids: b}) {
			t.Error(place)
		}
	}
}

func TestP12_1SameNilKids(t *testing.T) {
	for _, op := range []string{"int", "true", "pair", "", "x"} {
		a, b, c := value.Value{Op: op, Int: 4}, value.Value{Op: op, Int: 4, Kids: []value.Value{}}, value.Value{Op: op, Int: 4, Kids: []value.Value{three}[:0]}
		if !value.Same(a, b) || !value.Same(b, a) || !value.Same(b, c) || !value.Same(both(zero, a), both(zero, c)) {
			t.Errorf("%q: nil Kids aren't the same as no Kids", op)
		}
		if value.Right(a) != (op == "int") || value.Right(b) != (op == "int") {
			t.Errorf("%q: Right", op)
		}
	}
}

func TestP12_1Show(t *testing.T) {
	for _, c := range []struct {
		v    value.Value
		want string
	}{
		{zero, "0"}, {three, "3"}, {value.Int(10), "10"}, {value.Int(-1), "-1"}, {value.Int(-120), "-120"},
		{value.Int(math.MaxInt64), "9223372036854775807"}, {value.Int(math.MinInt64), "-9223372036854775808"},
		{yes, "true"}, {no, "false"}, {unit, "()"}, {both(zero, yes), "(0, true)"}, {both(unit, unit), "((), ())"},
		{both(both(value.Int(-1), no), value.Int(2)), "((-1, false), 2)"}, {both(value.Int(1), both(unit, yes)), "(1, ((), true))"},
		{both(both(value.Int(1), value.Int(2)), both(value.Int(3), both(value.Int(4), value.Int(5)))), "((1, 2), (3, (4, 5)))"},
		{value.Value{}, "?"}, {wrong, "?"}, {value.Value{Op: "pair"}, "?"}, {value.Value{Op: "true", Int: 1}, "?"}, {value.Value{Op: "?"}, "?"},
		{both(zero, wrong), "?"}, {both(wrong, zero), "?"}, {both(both(zero, both(wrong, yes)), unit), "?"},
		{value.Value{Op: "int", Int: 5, Kids: []value.Value{}}, "5"},
	} {
		if got := value.Show(c.v); got != c.want {
			t.Errorf("Show(%v) is %q, want %q", c.v, got, c.want)
		}
	}
}

// isZero tells whether nothing stands beside an error.
func isZero(v value.Value) bool { return v.Op == "" && v.Int == 0 && len(v.Kids) == 0 }

// brief is the Ops of values, and of their parts, but no further: they may be nested deep, or without an end.
func brief(l ...value.Value) string {
	ops := ""
	for _, v := range l {
		ops += " " + v.Op
		for _, k := range v.Kids {
			ops += " " + k.Op
		}
	}
	return ops
}

func wantApply(t *testing.T, want string, wantErr api.Errno, op string, l ...value.Value) {
	t.Helper()
	v, e := value.Apply(op, l...)
	if e != wantErr {
		t.Errorf("Apply(%q) of%s: %v, want %v", op, brief(l...), e, wantErr)
		return
	}
	if e != api.OK {
		if !isZero(v) {
			t.Errorf("Apply(%q) of%s:%s beside %v", op, brief(l...), brief(v), e)
		}
		return
	}
	if value.Show(v) != want || !value.Right(v) {
		t.Errorf("Apply(%q) of%s is%s, want %s", op, brief(l...), brief(v), want)
	}
}

func TestP12_2Example(t *testing.T) {
	v, e := value.Apply("+", value.Int(2), value.Int(3))
	if e != api.OK || !reflect.DeepEqual(v, value.Int(5)) {
		t.Error(v, e)
	}
}

func TestP12_2One(t *testing.T) {
	p := both(both(three, no), unit)
	for _, c := range []struct {
		op   string
		v    value.Value
		want string
	}{
		{"neg", three, "-3"}, {"neg", zero, "0"}, {"neg", value.Int(-9), "9"}, {"neg", value.Int(math.MinInt64), "-9223372036854775808"},
		{"neg", value.Int(math.MaxInt64), "-9223372036854775807"}, {"neg", value.Int(math.MinInt64 + 1), "9223372036854775807"},
		{"not", yes, "false"}, {"not", no, "true"}, {"fst", p, "(3, false)"}, {"snd", p, "()"}, {"fst", both(yes, zero), "true"}, {"snd", both(yes, p), "((3, false), ())"},
	} {
		wantApply(t, c.want, api.OK, c.op, c.v)
	}
}

func TestP12_2Numbers(t *testing.T) {
	const most, least = math.MaxInt64, math.MinInt64
	for _, c := range []struct {
		op   string
		a, b int64
		want string
	}{
		{"+", 2, 3, "5"}, {"+", -2, 1, "-1"}, {"+", most, 1, "-9223372036854775808"}, {"+", least, -1, "9223372036854775807"}, {"+", most, most, "-2"}, {"+", least, least, "0"},
		{"-", 1, 2, "-1"}, {"-", 5, 5, "0"}, {"-", least, 1, "9223372036854775807"}, {"-", most, -1, "-9223372036854775808"}, {"-", 0, least, "-9223372036854775808"}, {"-", least, most, "1"},
		{"*", 6, -7, "-42"}, {"*", 0, least, "0"}, {"*", most, 2, "-2"}, {"*", least, -1, "-9223372036854775808"}, {"*", 1 << 32, 1 << 32, "0"}, {"*", 1 << 62, 3, "-4611686018427387904"}, {"*", most, most, "1"}, {"*", least, least, "0"},
		{"*", 3037000500, 3037000500, "-9223372036709301616"},
		{"=", 4, 4, "true"}, {"=", 4, 5, "false"}, {"=", -4, 4, "false"}, {"=", -4, -4, "true"}, {"=", most, most, "true"}, {"=", least, most, "false"}, {"=", least, least, "true"}, {"=", 0, 1 << 32, "false"},
		{"<", 4, 4, "false"}, {"<", 4, 5, "true"}, {"<", 5, 4, "false"}, {"<", -5, -4, "true"}, {"<", -4, 3, "true"}, {"<", 3, -4, "false"}, {"<", least, most, "true"}, {"<", most, least, "false"}, {"<", least, least, "false"}, {"<", most, most, "false"}, {"<", most - 1, most, "true"},
	} {
		wantApply(t, c.want, api.OK, c.op, value.Int(c.a), value.Int(c.b))
	}
}

func TestP12_2Truths(t *testing.T) {
	for _, a := range []bool{true, false} {
		for _, b := range []bool{true, false} {
			wantApply(t, value.Show(value.Bool(a && b)), api.OK, "and", value.Bool(a), value.Bool(b))
			wantApply(t, value.Show(value.Bool(a || b)), api.OK, "or", value.Bool(a), value.Bool(b))
		}
	}
}

func TestP12_2Pair(t *testing.T) {
	l := []value.Value{zero, three, yes, no, unit, both(zero, three), both(both(yes, no), unit)}
	for _, a := range l {
		for _, b := range l {
			wantApply(t, "("+value.Show(a)+", "+value.Show(b)+")", api.OK, "pair", a, b)
			p, _ := value.Apply("pair", a, b)
			if !value.Same(p, both(a, b)) {
				t.Errorf("the pair of %v and %v is %v", a, b, p)
			}
			wantApply(t, value.Show(a), api.OK, "fst", p)
			wantApply(t, value.Show(b), api.OK, "snd", p)
		}
	}
}

// takes is which kinds of values each op takes: n is a number, t a truth value, u a unit, p a pair, and a dot any of these.
func takes(op string) string {
	switch op {
	case "neg":
		return "n"
	case "not":
		return "t"
	case "fst", "snd":
		return "p"
	case "+", "-", "*", "=", "<":
		return "nn"
	case "and", "or":
		return "tt"
	case "pair":
		return ".."
	}
	return "none"
}

var ops = []string{
	"neg", "not", "fst", "snd", "+", "-", "*", "=", "<", "and", "or", "pair",
	"", "int", "true", "false", "unit", "if", "let", "seq", "set", "call", "var", "/", "<=", "==", "Neg", "neg ", "first", "PAIR", ">",
}

// TestP12_2Kinds has each op with all lists of up to three values, of each kind.
func TestP12_2Kinds(t *testing.T) {
	kinds := map[byte]value.Value{'n': three, 't': yes, 'u': unit, 'p': both(yes, three)}
	lists := []string{""}
	for from := 0; len(lists[from]) < 3; from++ {
		for _, k := range "ntup" {
			lists = append(lists, lists[from]+string(k))
		}
	}
	for _, op := range ops {
		for _, list := range lists {
			want := takes(op)
			fits := len(list) == len(want)
			var l []value.Value
			for i := range list {
				l = append(l, kinds[list[i]])
				fits = fits && (want[i] == '.' || want[i] == list[i])
			}
			_, e := value.Apply(op, l...)
			if fits != (e == api.OK) {
				t.Errorf("Apply(%q) of %s: %v", op, list, e)
			}
			if !fits {
				wantApply(t, "", api.ErrType, op, l...)
			}
		}
	}
}

// TestP12_2NotValid has a value that isn't valid at each place, with each op.
func TestP12_2NotValid(t *testing.T) {
	good := []value.Value{three, yes, both(zero, no)}
	for _, op := range ops {
		for _, bad := range []value.Value{{}, wrong, {Op: "pair"}, {Op: "false", Int: 2}, both(three, wrong), both(both(wrong, yes), no), {Op: "neg"}} {
			wantApply(t, "", api.ErrArg, op, bad)
			wantApply(t, "", api.ErrArg, op, bad, bad)
			for _, v := range good {
				wantApply(t, "", api.ErrArg, op, bad, v)
				wantApply(t, "", api.ErrArg, op, v, bad)
				wantApply(t, "", api.ErrArg, op, v, v, bad)
				wantApply(t, "", api.ErrArg, op, v, bad, v, v)
			}
		}
		wantApply(t, "", api.ErrType, op)
	}
}
