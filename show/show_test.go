package show_test

import (
	"math"
	"strconv"
	"strings"
	"testing"

	"whisper/api"
	"whisper/expr"
	"whisper/show"
	"whisper/tree"
)

// The tests of P8.1 and P8.2, each named after the part of them that it holds.

func short(s string) string {
	if len(s) > 120 {
		s = s[:120] + ".. of " + strconv.Itoa(len(s)) + " bytes"
	}
	return strconv.Quote(s)
}

func parse(t *testing.T, s string) (*tree.Tree, int) {
	t.Helper()
	x, i, err := expr.Parse(s)
	if err != nil {
		t.Fatalf("Parse(%s): %v", short(s), err)
	}
	return x, i
}

// wantText holds the text of what is parsed from a text.
func wantText(t *testing.T, s, want string) {
	t.Helper()
	x, i := parse(t, s)
	wantTextOf(t, x, i, want)
}

func wantTextOf(t *testing.T, x *tree.Tree, i int, want string) {
	t.Helper()
	if got, e := show.Expr(x, i); got != want || e != api.OK {
		t.Errorf("Expr = %s, %v; want %s", short(got), e, short(want))
	}
}

func wantNoText(t *testing.T, x *tree.Tree, i int) {
	t.Helper()
	if got, e := show.Expr(x, i); got != "" || e != api.ErrArg {
		n, _ := x.Get(i)
		t.Errorf("Expr of %s %s with %d Kids = %s, %v; want ErrArg", n.Op, short(n.Name), len(n.Kids), short(got), e)
	}
}

// wantSettled holds P8.2: what has a text is parsed from it, and shown as it.
func wantSettled(t *testing.T, x *tree.Tree, i int) {
	t.Helper()
	s, e := show.Expr(x, i)
	y, k := parse(t, s)
	if e != api.OK || !tree.Same(x, i, y, k) {
		t.Errorf("%s, %v is parsed as another expression", short(s), e)
	}
	wantTextOf(t, y, k, s)
}

// one is a tree of one node.
func one(n api.Node) *tree.Tree {
	x := &tree.Tree{}
	x.Add(n)
	return x
}

func TestP8_1Example(t *testing.T) {
	wantText(t, "(a; b) * - f(1, x)", "(a; b) * - f(1, x)")
	wantText(t, "1 + 2 * x", "1 + 2 * x")
	wantText(t, "release h (1 + x)", "release h (1 + x)")
}

func TestP8_1NoExpression(t *testing.T) {
	var none *tree.Tree
	empty := &tree.Tree{}
	x, _ := parse(t, "a + b")
	for _, i := range []int{0, 1, 3, 4, -1, math.MaxInt, math.MinInt} {
		wantNoText(t, none, i)
		wantNoText(t, empty, i)
		if i < 0 || i > 2 {
			wantNoText(t, x, i)
		}
	}
	wantTextOf(t, x, 0, "a")
	wantTextOf(t, x, 1, "b")
	wantTextOf(t, x, 2, "a + b")
}

// Each Op, from a text with more blanks and brackets than it needs, or with fewer blanks.
func TestP8_1Ops(t *testing.T) {
	for _, c := range [][2]string{
		{"let\tx=(a)in\nb", "let x = a in b"},
		{"if(a)then(b)else(c)", "if a then b else c"},
		{"try(a)with E->(b)", "try a with E -> b"},
		{" raise  E # why", "raise E"},
		{"out c(a)", "out c a"},
		{"g:=(a)", "g := a"},
		{"a ;b", "a; b"},
		{"(a)or(b)", "a or b"},
		{"(a)and(b)", "a and b"},
		{"a=b", "a = b"},
		{"a<b", "a < b"},
		{"a+b", "a + b"},
		{"a-b", "a - b"},
		{"a*b", "a * b"},
		{"-a", "- a"},
		{"not(a)", "not a"},
		{"fst(a)", "fst a"},
		{"snd(a)", "snd a"},
		{"!  g", "!g"},
		{" true ", "true"},
		{"(false)", "false"},
		{"hole  k", "hole k"},
		{"release h(a)", "release h (a)"},
		{"release h ( ( a ) )", "release h (a)"},
		{"( )", "()"},
		{"((  ))", "()"},
		{"(a ,b)", "(a, b)"},
		{"00042", "42"},
		{"000", "0"},
		{"((x))", "x"},
		{"f ( )", "f()"},
		{"f (a)", "f(a)"},
		{"f( a,b )", "f(a, b)"},
		{"f((a),(b),c,d)", "f(a, b, c, d)"},
	} {
		wantText(t, c[0], c[1])
	}
}

func TestP8_1Blanks(t *testing.T) {
	for _, s := range []string{
		"!g + !g", "- !g", "(!g, !g)", "!g; !g", "f(!g)", "not !g = !g", "g := !g", "!g * (!g; !g)",
		"((), ())", "f(())", "f((a, b))", "f((a, b), ())", "((a, b), c)", "(((a, b), c), (d, (e, f)))",
		"f(g())", "f(g(), h(i(), j))", "f(a; b, c; d)", "f(let x = a in b, raise E)", "(a; b, c; d)",
		"release h (release k (f()))", "release h (())", "release h ((a, b))", "release h (a; b)", "release h (let x = a in x)",
		"out c (a, b)", "out c ()", "out c f()", "out c (a; b)", "out c - a", "out c !g", "out c release h (a)",
		"- (a + b)", "not (a or b)", "fst (a, b)", "snd f(a)", "fst release h (a)", "not - fst snd - a", "- - a", "a - - b", "a - (- b - c)",
		"(a; b); c", "((a; b); c); d", "f(); g(); ()", "(a; b) + c", "(a + b) * c", "c * (a + b)",
		"try f(a) with E -> (a; b)", "let x = (a, b) in fst x", "if (a, b) = c then () else ()", "true; false; 0", "hole k; hole l", "raise E; a",
	} {
		wantText(t, s, s)
		x, i := parse(t, s)
		wantNoneToSpare(t, s)
		wantSettled(t, x, i)
	}
}

// places has for each rule of layer 5 the texts with a place (_) for it.
var places = map[string][]string{
	"all": {"_", "let x = _ in a", "let x = a in _", "if _ then a else b", "try _ with E -> a", "a; _", "a; b; _",
		"release h (_)", "(_, a)", "(a, _)", "f(_)", "f(_, a)", "f(a, _)", "f(a, _, b)"},
	"item":  {"if a then _ else b", "if a then b else _", "try a with E -> _"},
	"or":    {"out c _", "g := _", "_ or a"},
	"and":   {"a or _", "_ and a", "a or _ or b"},
	"test":  {"a and _"},
	"sum":   {"_ = a", "_ < a", "a = _", "a < _", "_ + a", "_ - a"},
	"times": {"a + _", "a - _", "_ * a", "a + _ - b"},
	"unary": {"a * _", "- _", "not _", "fst _", "snd _", "a * _ * b"},
}

// parts has for each level the texts of that level.
var parts = [][]string{
	{"p; q", "p; q; r", "(p; q); r", "p; let y = q in r"},
	{"let y = p in q", "if p then q else r", "try p with F -> q", "raise F", "out d p", "h := p", "let y = p in q; r", "if p then q else let y = r in s", "try p with F -> let y = q in r"},
	{"p or q", "p or q or r"},
	{"p and q", "p and q and r"},
	{"p = q", "p < q"},
	{"p + q", "p - q", "p - q + r"},
	{"p * q", "p * q * r"},
	{"- p", "not p", "fst p", "snd p", "!h", "true", "false", "hole l", "release i (p)", "()", "(p, q)", "12", "p", "k()", "k(p)", "k(p, q)"},
}

func TestP8_1Brackets(t *testing.T) {
	for least, rule := range strings.Fields("all item or and test sum times unary") {
		for _, place := range places[rule] {
			for level, texts := range parts {
				for _, part := range texts {
					want := strings.Replace(place, "_", part, 1)
					if level < least {
						want = strings.Replace(place, "_", "("+part+")", 1)
					}
					wantText(t, strings.Replace(place, "_", "("+part+")", 1), want)
				}
			}
		}
	}
}

func TestP8_1BeforeSemicolon(t *testing.T) {
	for _, c := range []struct {
		part     string
		brackets bool
	}{
		{"let x = a in b", true},
		{"let x = a in b; c", true},
		{"let x = a in raise E", true},
		{"if a then b else let x = c in d", true},
		{"try a with E -> let x = b in c", true},
		{"if a then b else try c with E -> let x = d in e", true},
		{"try a with E -> if b then c else let x = d in e", true},
		{"if a then b else if c then d else if e then f else let x = i in j", true},
		{"if a then b else let x = c in if d then e else i", true},
		{"try a with E -> let x = b in (c; d) + 1", true},
		{"a; b", true},
		{"a; let x = b in c", true},

		{"if a then b else c", false},
		{"if let x = a in b then c else d", false},
		{"if a then let x = b in c else d", false},
		{"if a then let x = b in c; d else e", false},
		{"try let x = a in b with E -> c", false},
		{"try a with E -> if b then let x = c in d else e", false},
		{"if a then b else (c; let x = d in e)", false},
		{"try a with E -> (let x = b in c; d) + e", false},
		{"if a then b else out c (let x = d in e)", false},
		{"if a then b else g := (let x = c in d)", false},
		{"if a then b else - (let x = c in d)", false},
		{"out c (let x = a in b)", false},
		{"g := (let x = a in b)", false},
		{"(let x = a in b) + c", false},
		{"a + (let x = b in c)", false},
		{"not (let x = a in b)", false},
		{"f(let x = a in b)", false},
		{"(a, let x = b in c)", false},
		{"release h (let x = a in b)", false},
		{"raise E", false}, {"out c a", false}, {"g := a", false}, {"a or b", false}, {"a", false}, {"()", false}, {"hole k", false},
	} {
		want := c.part + "; z"
		if c.brackets {
			want = "(" + c.part + "); z"
		}
		for _, place := range []string{"_", "y; _", "let x = _ in y", "if y then (_) else z", "f(_)", "(_) + y"} {
			wantText(t, strings.Replace(place, "_", "("+c.part+"); z", 1), strings.Replace(place, "_", want, 1))
		}
		wantText(t, "y; ("+c.part+")", "y; "+c.part) // after a ; none is needed
	}
	// brackets around the let alone are moved: it's the part before the ; that is in brackets
	wantText(t, "if a then b else (let x = c in d); e", "(if a then b else let x = c in d); e")
	wantText(t, "try a with E -> (let x = c in d); e", "(try a with E -> let x = c in d); e")
	wantText(t, "if a then b else try c with E -> (let x = d in e); i", "(if a then b else try c with E -> let x = d in e); i")
}

// Items within items.
func TestP8_1Items(t *testing.T) {
	for _, s := range []string{
		"let x = let y = a in b in c", "let x = a in let y = b in c", "let x = if a then b else c in d", "let x = raise E in out c x", "let x = g := a in h := b",
		"if if a then b else c then d else e", "if a then if b then c else d else e", "if a then b else if c then d else e", "if raise E then out c a else g := b",
		"if let x = a in b then let y = c in d else let z = e in i", "if try a with E -> b then try c with F -> d else try e with G -> i",
		"try try a with E -> b with F -> try c with G -> d", "try raise E with E -> raise F", "try out c a with E -> g := b", "try g := a with E -> out c b", "try let x = a in b with E -> let y = c in d", "try if a then b else c with E -> if d then e else i",
		"out c (let x = a in b)", "out c (if a then b else d)", "out c (try a with E -> b)", "out c (raise E)", "out c (out d a)", "out c (g := a)",
		"g := (let x = a in b)", "g := (if a then b else c)", "g := (try a with E -> b)", "g := (raise E)", "g := (out c a)", "g := (h := a)",
	} {
		wantText(t, s, s)
		wantNoneToSpare(t, s)
	}
}

var (
	goodNames  = []string{"a", "Z", "_", "x1", "__", "lets", "Let", "inn", "a_B_9", "seq", "var", "call", "int", "neg", strings.Repeat("q", api.MaxName)}
	wrongNames = []string{"", " ", "let", "in", "main", "to", "hatch", "true", "hole", "1", "1a", "a b", " a", "a ", "a\n", "a#", "a;", "a; b", "a+b", "a + b", "-a", "!a", "(a)", "(", ")", "a(", "a()", "a(b)", ",", "a, b", "()", "a := b", ":=", "x.y", "é", "\x00", "\xff", "a = b in c", strings.Repeat("q", api.MaxName+1), strings.Repeat("q", 1<<20)}
)

// named has the Ops that have a name, with so many Kids; a call is among those with each number.
var named = map[string]int{"let": 2, "try": 2, "raise": 0, "out": 1, "set": 1, "get": 0, "hole": 0, "release": 1, "var": 0, "call": 0}

func TestP8_1Names(t *testing.T) {
	for op, kids := range named {
		for _, name := range goodNames {
			x := one(api.Node{Op: "unit"})
			i, _ := x.Add(api.Node{Op: op, Name: name, Kids: make([]int, kids)})
			if s, e := show.Expr(x, i); e != api.OK || !strings.Contains(s, name) {
				t.Errorf("%s with the name %s: %s, %v", op, short(name), short(s), e)
			}
		}
		for _, name := range wrongNames {
			x := one(api.Node{Op: "unit"})
			i, _ := x.Add(api.Node{Op: op, Name: name, Kids: make([]int, kids)})
			wantNoText(t, x, i)
			i, _ = x.Add(api.Node{Op: "neg", Kids: []int{i}})
			wantNoText(t, x, i)
		}
	}
	for _, op := range ops { // a name, or a number, that layer 5 gives no such node
		x := one(api.Node{Op: "unit"})
		kids := make([]int, kidsOf(op, 2))
		if _, ok := named[op]; !ok {
			i, _ := x.Add(api.Node{Op: op, Name: "n", Kids: kids})
			wantNoText(t, x, i)
		}
		if op != "int" {
			i, _ := x.Add(api.Node{Op: op, Name: "n", Int: 1, Kids: kids})
			wantNoText(t, x, i)
			i, _ = x.Add(api.Node{Op: op, Int: 1, Kids: kids})
			wantNoText(t, x, i)
		}
	}
}

func TestP8_1Numbers(t *testing.T) {
	for _, n := range []int64{0, 1, 9, 10, 42, 999999999999999999} {
		wantTextOf(t, one(api.Node{Op: "int", Int: n}), 0, strconv.FormatInt(n, 10))
	}
	for _, n := range []int64{-1, -42, 1000000000000000000, math.MaxInt64, math.MinInt64} {
		x := one(api.Node{Op: "int", Int: n})
		wantNoText(t, x, 0)
		i, _ := x.Add(api.Node{Op: "neg", Kids: []int{0}})
		wantNoText(t, x, i)
		i, _ = x.Add(api.Node{Op: "pair", Kids: []int{i, 0}})
		wantNoText(t, x, i)
	}
	x := one(api.Node{Op: "int", Int: 1})
	i, _ := x.Add(api.Node{Op: "neg", Kids: []int{0}})
	wantTextOf(t, x, i, "- 1")
}

// Where a node is, and what else is in its tree, is no part of its text.
func TestP8_1Elsewhere(t *testing.T) {
	x := one(api.Node{Op: "what", At: api.Pos{Line: 9, Col: 9}})
	x.Add(api.Node{Op: "var", Name: "a", At: api.Pos{Line: 7, Col: 1}})
	x.Add(api.Node{Op: "let"})
	x.Add(api.Node{Op: "*", Kids: []int{1, 1}, At: api.Pos{Line: -1}})
	x.Add(api.Node{Op: "neg", Kids: []int{2}})
	wantTextOf(t, x, 3, "a * a")
	wantTextOf(t, x, 1, "a")
	for _, i := range []int{0, 2, 4} {
		wantNoText(t, x, i)
	}
}

// chain has a var within so many nodes of one Op, at the place of a Kid of several.
func chain(t *testing.T, op string, place, n int) (*tree.Tree, int) {
	t.Helper()
	x := &tree.Tree{}
	i := put(t, x, "var")
	for range n {
		i = withPart(t, x, op, place, i)
	}
	return x, i
}

// An item has 63 unaries, or items, within each other at most; brackets are one of each.
func TestP8_1Deep(t *testing.T) {
	for _, c := range []struct {
		op          string
		place, most int
		text        string
	}{
		{"neg", 0, 62, strings.Repeat("- ", 62) + "n"},
		{"not", 0, 62, strings.Repeat("not ", 62) + "n"},
		{"pair", 0, 31, strings.Repeat("(", 31) + "n" + strings.Repeat(", n)", 31)},
		{"call", 1, 31, strings.Repeat("n(n, ", 31) + "n" + strings.Repeat(")", 31)},
		{"release", 0, 31, strings.Repeat("release n (", 31) + "n" + strings.Repeat(")", 31)},
		{"+", 1, 32, strings.Repeat("n + (", 31) + "n + n" + strings.Repeat(")", 31)},
		{"=", 0, 32, strings.Repeat("(", 31) + "n = n" + strings.Repeat(") = n", 31)},
		{"seq", 0, 32, strings.Repeat("(", 31) + "n; n" + strings.Repeat("); n", 31)},
		{"let", 1, 62, strings.Repeat("let n = n in ", 62) + "n"},
		{"if", 2, 62, strings.Repeat("if n then n else ", 62) + "n"},
		{"try", 0, 62, strings.Repeat("try ", 62) + "n" + strings.Repeat(" with n -> n", 62)},
		{"out", 0, 32, strings.Repeat("out n (", 31) + "out n n" + strings.Repeat(")", 31)},
		{"set", 0, 32, strings.Repeat("n := (", 31) + "n := n" + strings.Repeat(")", 31)},
	} {
		x, i := chain(t, c.op, c.place, c.most)
		wantTextOf(t, x, i, c.text)
		x, i = chain(t, c.op, c.place, c.most+1)
		wantNoText(t, x, i)
		x, i = chain(t, c.op, c.place, 900)
		wantNoText(t, x, i)
	}
	// What isn't within each other may be long.
	for _, c := range []struct {
		op, mark string
		place    int
	}{{"+", " + ", 0}, {"-", " - ", 0}, {"*", " * ", 0}, {"or", " or ", 0}, {"and", " and ", 0}, {"seq", "; ", 1}} {
		x, i := chain(t, c.op, c.place, 1999)
		wantTextOf(t, x, i, "n"+strings.Repeat(c.mark+"n", 1999))
	}
}

// A text of layer 5 whose own text is deeper, by the brackets that are moved.
func TestP8_1DeeperThanParsed(t *testing.T) {
	text := func(n int) string { return "if " + strings.Repeat("- ", n) + "a then b else (let x = c in d); e" }
	wantText(t, text(59), "(if "+strings.Repeat("- ", 59)+"a then b else let x = c in d); e")
	x, i := parse(t, text(60))
	wantNoText(t, x, i)
	x, i = parse(t, text(61))
	wantNoText(t, x, i)
}

func TestP8_1ManyNodes(t *testing.T) {
	x, _ := chain(t, "+", 0, 1999) // 3999 nodes
	i := put(t, x, "neg", x.Len()-1)
	wantTextOf(t, x, i, "- (n"+strings.Repeat(" + n", 1999)+")")

	x = one(api.Node{Op: "unit"}) // one node, many times
	for _, c := range []struct {
		kids int
		good bool
	}{{0, true}, {1, true}, {3999, true}, {4000, false}, {4001, false}, {100000, false}} {
		i, _ := x.Add(api.Node{Op: "call", Name: "f", Kids: make([]int, c.kids)})
		if c.good {
			wantTextOf(t, x, i, "f("+strings.TrimSuffix(strings.Repeat("(), ", c.kids), ", ")+")")
		} else {
			wantNoText(t, x, i)
		}
	}
}

// P1: nodes whose Kids are twice the same double the text with each of them.
func TestP1Doubled(t *testing.T) {
	for _, op := range strings.Fields("seq let try + = pair call") {
		for _, name := range []string{"n", "", strings.Repeat("q", 1<<16)} {
			x := one(api.Node{Op: "var", Name: name})
			for x.Len() < api.MaxNodes {
				i := x.Len() - 1
				put(t, x, op, i, i)
			}
			for _, i := range []int{x.Len() - 1, 12, 20, 31, 32, 62, 63, 64, 65, 127, 128} {
				wantNoText(t, x, i)
			}
		}
	}
	x := one(api.Node{Op: "int", Int: 1})
	for range 10 {
		put(t, x, "-", x.Len()-1, x.Len()-1)
	}
	wantTextOf(t, x, 2, "1 - 1 - (1 - 1)")
	if s, e := show.Expr(x, 10); e != api.OK || strings.Count(s, "1") != 1024 {
		t.Errorf("%s, %v", short(s), e)
	}
}

// A text of more bytes than layer 5 reads.
func TestP8_1ManyBytes(t *testing.T) {
	long := strings.Repeat("q", api.MaxName)
	const count = 1560 // with a comma and a blank each, they leave 13 bytes for the last one
	for last := 1; last <= api.MaxName; last++ {
		x := one(api.Node{Op: "var", Name: long})
		k, _ := x.Add(api.Node{Op: "var", Name: long[:last]})
		i, _ := x.Add(api.Node{Op: "call", Name: "f", Kids: append(make([]int, count), k)})
		want := "f(" + strings.Repeat(long+", ", count) + long[:last] + ")"
		if good := last <= 13; good != (len(want) <= api.MaxBytes) {
			t.Fatalf("a text of %d bytes", len(want))
		} else if good {
			wantTextOf(t, x, i, want)
		} else {
			wantNoText(t, x, i)
		}
	}
	// What layer 5 parsed without its blanks.
	x, i := parse(t, long+strings.Repeat("+"+long, 1500))
	wantTextOf(t, x, i, long+strings.Repeat(" + "+long, 1500))
	x, i = parse(t, long+strings.Repeat("+"+long, 1590))
	wantNoText(t, x, i)
}

func TestP8_2Settled(t *testing.T) {
	for _, s := range []string{
		"((((a))))", "1-(2-(3-4))", "((1-2)-3)-4", "(a=b)=(c<d)", "a or(b or c)", "(a or b)or c", "a and(b or c)and d", "not(not(a))", "-(1)", "0007",
		"if(a;b)then(c;d)else(e;f)", "let x=(let y=1 in y;2)in(x;(x;x))", "((a;b);c);(d;(e;f))", "out c(out d(1))", "try(a;b)with E->(raise E);c",
		"f ( (a,b) , (c;d) , ( ) )", "release h(let x=1 in x)", "! g + hole h # end",
	} {
		x, i := parse(t, s)
		wantSettled(t, x, i)
	}
}

// Rule 3: the tree is as it was, and what is done with it later changes no text.
func TestP2Apart(t *testing.T) {
	x, i := parse(t, "let x = f(1, a); b in out c x + 1; (a, b)")
	before := x.Clone()
	s, _ := show.Expr(x, i)
	again, _ := show.Expr(x, i)
	show.Expr(x, -1)
	show.Expr(one(api.Node{Op: "what"}), 0)
	if x.Len() != before.Len() || !tree.Same(x, i, before, i) || s != again {
		t.Error("Expr changes its tree:", s, again)
	}
	put(t, x, "neg", i)
	wantTextOf(t, x, i, s)
	wantTextOf(t, before, i, s)
}

func FuzzExpr(f *testing.F) {
	for _, texts := range places {
		for _, s := range texts {
			f.Add(s)
		}
	}
	for _, texts := range parts {
		for _, s := range texts {
			f.Add(s)
		}
	}
	f.Add("if a then b else (let x = c in d); e")
	f.Fuzz(func(t *testing.T, s string) {
		x, i, err := expr.Parse(s)
		if err == nil && wantByWords(t, x, i) {
			wantSettled(t, x, i)
		}
	})
}
