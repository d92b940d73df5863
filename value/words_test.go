package value_test

import (
	"fmt"
	"math"
	"math/big"
	"math/rand"
	"regexp"
	"strings"
	"testing"

	"whisper/api"
	"whisper/value"
)

// The chapter's words put on texts: a value is written whole, with its Op, its Int, and its Kids in brackets; in this text, each valid value whose parts are read is replaced by its string, in < and >.

func written(v value.Value) string {
	var b strings.Builder
	fmt.Fprintf(&b, "%q:%d[", v.Op, v.Int)
	for _, k := range v.Kids {
		b.WriteString(written(k))
	}
	return b.String() + "]"
}

var readings = []struct {
	is *regexp.Regexp
	by string
}{
	{regexp.MustCompile(`"int":(-?[0-9]+)\[\]`), "<$1>"},
	{regexp.MustCompile(`"(true|false)":0\[\]`), "<$1>"},
	{regexp.MustCompile(`"unit":0\[\]`), "<()>"},
	{regexp.MustCompile(`"pair":0\[<([^<>]*)><([^<>]*)>\]`), "<($1, $2)>"},
	{regexp.MustCompile(`^<([^<>]*)>$`), "$1"},
}

// read is a valid value's string; ? for any other.
func read(v value.Value) string {
	s := written(v)
	for {
		was := s
		for _, r := range readings {
			s = r.is.ReplaceAllString(s, r.by)
		}
		if s == was {
			break
		}
	}
	if strings.ContainsAny(s, `"<`) {
		return "?"
	}
	return s
}

var (
	numberText = regexp.MustCompile(`^-?[0-9]+$`)
	truthText  = regexp.MustCompile(`^(true|false)$`)
	leafText   = regexp.MustCompile(`-?[0-9]+|true|false|\(\)`)
)

// halves is the strings of a pair's values; false, if this string is none of a pair.
func halves(s string) (string, string, bool) {
	deep := 0
	for i, c := range s {
		switch c {
		case '(':
			deep++
		case ')':
			deep--
		case ',':
			if deep == 1 {
				return s[1:i], s[i+2 : len(s)-1], true
			}
		}
	}
	return "", "", false
}

// modulo is a number from -2^63 on, and below 2^63.
func modulo(n *big.Int) string {
	half := new(big.Int).Lsh(big.NewInt(1), 63)
	whole := new(big.Int).Lsh(half, 1)
	n = new(big.Int).Mod(new(big.Int).Add(n, half), whole)
	return n.Sub(n, half).String()
}

func integer(s string) *big.Int {
	n, _ := new(big.Int).SetString(s, 10)
	return n
}

func truth(b bool) string { return fmt.Sprint(b) }

// applied is what the words say of values that are these strings.
func applied(op string, l []string) (string, api.Errno) {
	for _, s := range l {
		if s == "?" {
			return "?", api.ErrArg
		}
	}
	if len(l) == 1 {
		a, b, isPair := halves(l[0])
		switch {
		case op == "neg" && numberText.MatchString(l[0]):
			return modulo(new(big.Int).Neg(integer(l[0]))), api.OK
		case op == "not" && truthText.MatchString(l[0]):
			return truth(l[0] == "false"), api.OK
		case op == "fst" && isPair:
			return a, api.OK
		case op == "snd" && isPair:
			return b, api.OK
		}
	}
	if len(l) == 2 {
		return appliedToTwo(op, l[0], l[1])
	}
	return "?", api.ErrType
}

func appliedToTwo(op, a, b string) (string, api.Errno) {
	if op == "pair" {
		p := "(" + a + ", " + b + ")"
		if len(leafText.FindAllString(p, -1))+strings.Count(p, ",") > 1000 {
			return "?", api.ErrLimit
		}
		return p, api.OK
	}
	if numberText.MatchString(a) && numberText.MatchString(b) {
		x, y, n := integer(a), integer(b), new(big.Int)
		switch op {
		case "+":
			return modulo(n.Add(x, y)), api.OK
		case "-":
			return modulo(n.Sub(x, y)), api.OK
		case "*":
			return modulo(n.Mul(x, y)), api.OK
		case "=":
			return truth(x.Cmp(y) == 0), api.OK
		case "<":
			return truth(x.Cmp(y) < 0), api.OK
		}
	}
	if truthText.MatchString(a) && truthText.MatchString(b) {
		switch op {
		case "and":
			return truth(a == "true" && b == "true"), api.OK
		case "or":
			return truth(a == "true" || b == "true"), api.OK
		}
	}
	return "?", api.ErrType
}

// wantWords holds all calls with a value alone against the words.
func wantWords(t *testing.T, v value.Value) {
	t.Helper()
	want := read(v)
	if got := value.Show(v); got != want {
		t.Fatalf("Show(%s) is %q, want %q", written(v), got, want)
	}
	if value.Right(v) != (want != "?") {
		t.Fatalf("Right(%s) is %v", written(v), want == "?")
	}
}

func wantApplied(t *testing.T, op string, l ...value.Value) api.Errno {
	t.Helper()
	var texts []string
	for _, v := range l {
		texts = append(texts, read(v))
	}
	want, wantErr := applied(op, texts)
	v, e := value.Apply(op, l...)
	if e != wantErr || read(v) != want || e != api.OK && !isZero(v) {
		t.Fatalf("Apply(%q, %s): %s, %v; want %s, %v", op, texts, written(v), e, want, wantErr)
	}
	return e
}

// values makes random ones; one in so many of its nodes is not as it should be, none if that is 0.
type values struct {
	*rand.Rand
	wrong int
}

func (r values) number() int64 {
	l := []int64{0, 1, -1, 2, 3, -7, 10, 1 << 31, 1 << 32, 1 << 62, math.MaxInt64, math.MinInt64, math.MaxInt64 - 1, math.MinInt64 + 1}
	if r.Intn(4) == 0 {
		return int64(r.Uint64())
	}
	return l[r.Intn(len(l))]
}

func (r values) value(deep int) value.Value {
	if r.wrong > 0 && r.Intn(r.wrong) == 0 {
		return r.any(deep)
	}
	if deep > 0 && r.Intn(3) > 0 {
		return both(r.value(deep-1), r.value(deep-1))
	}
	return []value.Value{value.Int(r.number()), value.Bool(r.Intn(2) == 0), value.Int(r.number()), unit}[r.Intn(4)]
}

// any has whatever Op, Int and Kids.
func (r values) any(deep int) value.Value {
	l := []string{"int", "true", "false", "unit", "pair", "pair", "", "bool", "+", "int\"", "\"int", "é", "<0>", "neg"}
	v := value.Value{Op: l[r.Intn(len(l))]}
	if r.Intn(2) == 0 {
		v.Int = r.number()
	}
	if r.Intn(2) == 0 {
		v.Kids = []value.Value{}
	}
	if deep > 0 && r.Intn(2) == 0 {
		for range r.Intn(4) {
			v.Kids = append(v.Kids, r.value(deep-1))
		}
	}
	return v
}

func TestP12_1RandomValues(t *testing.T) {
	valid := 0
	for _, wrong := range []int{1, 2, 5, 20, 0} {
		r := values{rand.New(rand.NewSource(int64(wrong))), wrong}
		for range 5000 {
			v := r.value(1 + r.Intn(4))
			wantWords(t, v)
			if value.Right(v) {
				valid++
			}
		}
	}
	if valid < 8000 || valid > 22000 {
		t.Errorf("%d of 25000 are valid", valid)
	}
}

// changed is a value that differs from another one in one place, or in none.
func (r values) changed(v value.Value) value.Value {
	v.Kids = append([]value.Value(nil), v.Kids...)
	if len(v.Kids) > 0 && r.Intn(4) > 0 {
		i := r.Intn(len(v.Kids))
		v.Kids[i] = r.changed(v.Kids[i])
		return v
	}
	switch r.Intn(7) {
	case 0:
		v.Op = []string{"int", "true", "false", "unit", "pair", "", "x"}[r.Intn(7)]
	case 1:
		v.Int = r.number()
	case 2:
		v.Kids = append(v.Kids, r.value(1))
	case 3:
		v.Kids = v.Kids[:len(v.Kids)/2]
	}
	return v
}

func TestP12_1RandomSame(t *testing.T) {
	same := 0
	for _, wrong := range []int{1, 3, 10, 0} {
		r := values{rand.New(rand.NewSource(int64(wrong) + 50)), wrong}
		for range 5000 {
			a, b := r.value(4), r.value(r.Intn(2))
			if r.Intn(4) > 0 {
				b = r.changed(a)
			}
			want := written(a) == written(b)
			if value.Same(a, b) != want || value.Same(b, a) != want {
				t.Fatalf("Same(%s, %s) isn't %v", written(a), written(b), want)
			}
			if want {
				same++
			}
		}
	}
	if same < 4000 || same > 16000 {
		t.Errorf("%d of 20000 are the same", same)
	}
}

func TestP12_2RandomApply(t *testing.T) {
	errs := map[api.Errno]int{}
	for _, wrong := range []int{3, 40, 0} {
		r := values{rand.New(rand.NewSource(int64(wrong) + 100)), wrong}
		for range 20000 {
			op := ops[r.Intn(len(ops))]
			var l []value.Value
			n := 1 + r.Intn(2)
			if r.Intn(20) == 0 {
				n = r.Intn(5)
			}
			for range n {
				l = append(l, r.value(r.Intn(3)))
			}
			errs[wantApplied(t, op, l...)]++
		}
	}
	for _, e := range []api.Errno{api.OK, api.ErrArg, api.ErrType} {
		if errs[e] < 2000 {
			t.Errorf("%v: only %d", e, errs[e])
		}
	}
}

// TestP12_2AllLists has each op with all lists of up to three of some values, of which two aren't valid.
func TestP12_2AllLists(t *testing.T) {
	some := []value.Value{zero, value.Int(-1), value.Int(math.MinInt64), value.Int(math.MaxInt64), yes, no, unit, both(zero, yes), both(unit, both(no, three)), wrong, {}}
	for _, op := range ops {
		wantApplied(t, op)
		for _, a := range some {
			wantApplied(t, op, a)
			for _, b := range some {
				wantApplied(t, op, a, b)
				for _, c := range some {
					wantApplied(t, op, a, b, c)
				}
			}
		}
	}
}

// TestP12_2RandomPairs has a list of values that grows by what Apply makes of its values, up to pairs of more than a thousand values.
func TestP12_2RandomPairs(t *testing.T) {
	r := values{rand.New(rand.NewSource(9)), 0}
	errs := map[api.Errno]int{}
	for range 15 {
		l := []value.Value{value.Int(r.number()), yes}
		for range 60 {
			a, b := l[max(0, len(l)-1-r.Intn(4))], l[len(l)-1]
			op := []string{"pair", "pair", "pair", "pair", "fst", "snd"}[r.Intn(6)]
			args := []value.Value{a, b}
			switch op {
			case "pair":
				r.Shuffle(2, func(i, k int) { args[i], args[k] = args[k], args[i] })
			default:
				args = args[:1]
			}
			e := wantApplied(t, op, args...)
			errs[e]++
			if v, _ := value.Apply(op, args...); e == api.OK {
				l = append(l, v)
			}
		}
	}
	for _, e := range []api.Errno{api.OK, api.ErrLimit, api.ErrType} {
		if errs[e] < 20 {
			t.Errorf("%v: only %d", e, errs[e])
		}
	}
}
