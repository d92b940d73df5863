package policy_test

import (
	"errors"
	"slices"
	"strconv"
	"strings"
	"testing"

	"whisper/api"
	"whisper/expr"
	"whisper/policy"
	"whisper/program"
	"whisper/tree"
)

// The tests of P7.1, each named after the part of it that it holds.

func pos(line, col int) api.Pos { return api.Pos{Line: line, Col: col} }

func name(s string, line, col int) program.Name {
	return program.Name{Text: s, At: pos(line, col)}
}

func names(l ...program.Name) []program.Name { return l }

// short is a text as a test tells it.
func short(s string) string {
	if len(s) > 80 {
		s = s[:80] + ".. of " + strconv.Itoa(len(s)) + " bytes"
	}
	return strconv.Quote(s)
}

func parse(t *testing.T, s string) *policy.Policy {
	t.Helper()
	p, err := policy.Parse(s)
	if err != nil || p == nil || p.Tree == nil {
		t.Fatalf("Parse(%s) = %v, %v", short(s), p, err)
	}
	return p
}

// wantDiag holds an error, and a policy beside it, which must be none.
func wantDiag(t *testing.T, s string, want api.Diag) {
	t.Helper()
	p, err := policy.Parse(s)
	var d api.Diag
	if p != nil || !errors.As(err, &d) || d != want || !errors.Is(err, want.Code) {
		t.Errorf("Parse(%s) = %v, %v; want %v", short(s), p, err, want)
	}
}

// wantError is for errors without a name.
func wantError(t *testing.T, s string, code api.Errno, line, col int) {
	t.Helper()
	wantDiag(t, s, api.Diag{Code: code, At: pos(line, col)})
}

func wantMissing(t *testing.T, s string, line, col int) {
	t.Helper()
	wantDiag(t, s, api.Diag{Code: api.ErrMissing, At: pos(line, col), Name: "attacker"})
}

func wantTwice(t *testing.T, s string, n program.Name) {
	t.Helper()
	wantDiag(t, s, api.Diag{Code: api.ErrTwice, At: n.At, Name: n.Text})
}

// wantPolicy holds all of a policy but its tree.
func wantPolicy(t *testing.T, s string, want policy.Policy) *policy.Policy {
	t.Helper()
	p := parse(t, s)
	if !slices.Equal(p.Conf, want.Conf) || !slices.Equal(p.Integ, want.Integ) {
		t.Errorf("the points of %s: %v, %v; want %v, %v", short(s), p.Conf, p.Integ, want.Conf, want.Integ)
	}
	if !slices.Equal(p.Order, want.Order) || p.Attacker != want.Attacker {
		t.Errorf("the order and the attacker of %s: %v, %v; want %v, %v", short(s), p.Order, p.Attacker, want.Order, want.Attacker)
	}
	same := func(a, b policy.Hatch) bool {
		return a.Name == b.Name && a.Body == b.Body && a.To == b.To && slices.Equal(a.In, b.In)
	}
	if !slices.EqualFunc(p.Hatches, want.Hatches, same) {
		t.Errorf("the hatches of %s: %v; want %v", short(s), p.Hatches, want.Hatches)
	}
	return p
}

// wantTree holds all nodes of a tree, each as its Op, Name, Int, position and Kids.
func wantTree(t *testing.T, x *tree.Tree, want ...string) {
	t.Helper()
	if got := nodes(x); !slices.Equal(got, want) {
		t.Errorf("the tree: %q; want %q", got, want)
	}
}

func nodes(x *tree.Tree) (l []string) {
	for i := range x.Len() {
		n, _ := x.Get(i)
		s := n.Op + " " + n.Name + " " + strconv.FormatInt(n.Int, 10) + " " + strconv.Itoa(n.At.Line) + ":" + strconv.Itoa(n.At.Col)
		for _, k := range n.Kids {
			s += " " + strconv.Itoa(k)
		}
		l = append(l, s)
	}
	return l
}

func TestP7_1Example(t *testing.T) {
	p := wantPolicy(t, "conf low, high; order low < high; integ ok, bad; order ok < bad; attacker bad;", policy.Policy{
		Conf:     names(name("low", 1, 6), name("high", 1, 11)),
		Integ:    names(name("ok", 1, 41), name("bad", 1, 45)),
		Order:    [][2]program.Name{{name("low", 1, 23), name("high", 1, 29)}, {name("ok", 1, 56), name("bad", 1, 61)}},
		Attacker: name("bad", 1, 75),
	})
	wantTree(t, p.Tree)
}

func TestP7_1NoTokens(t *testing.T) {
	wantMissing(t, "", 1, 1)
	wantMissing(t, " ", 1, 2)
	wantMissing(t, "\n\n", 3, 1)
	wantMissing(t, "# attacker a;", 1, 14)
	wantMissing(t, "\n  # attacker a;\n ", 3, 2)
	wantMissing(t, strings.Repeat(" ", api.MaxBytes), 1, api.MaxBytes+1)
}

func TestP7_1TokenErrors(t *testing.T) {
	const good = "attacker a;"
	wantError(t, good+strings.Repeat(" ", api.MaxBytes), api.ErrLimit, 1, 1)
	wantError(t, good+"\n \xff", api.ErrText, 2, 2)
	wantError(t, good+"\n $", api.ErrToken, 2, 2)
	wantError(t, "conf "+strings.Repeat("a", api.MaxName+1)+";"+good, api.ErrLimit, 1, 6)
	wantError(t, "hatch h = "+strings.Repeat("1", api.MaxDigits+1)+" to p in f;"+good, api.ErrLimit, 1, 11)
	// all of them ahead of what else is wrong, though that comes first
	wantError(t, "x $", api.ErrToken, 1, 3)
	wantError(t, "conf $", api.ErrToken, 1, 6)
	wantError(t, "attacker a; attacker b; $", api.ErrToken, 1, 25)
	wantError(t, confs(api.MaxDecls+1)+"\n$", api.ErrToken, 2, 1)
	wantError(t, "hatch h = "+strings.Repeat("(", 70)+"\n \xc0", api.ErrText, 2, 2)
	wantError(t, "$ \xff", api.ErrText, 1, 3)
	if p := parse(t, good+strings.Repeat(" ", api.MaxBytes-len(good))); p.Attacker != name("a", 1, 10) {
		t.Error("the longest text:", p.Attacker)
	}
	long := strings.Repeat("a", api.MaxName)
	if p := parse(t, "conf "+long+";"+good); p.Conf[0].Text != long {
		t.Error("the longest name:", p.Conf)
	}
}

func TestP7_1Points(t *testing.T) {
	wantPolicy(t, "conf a;attacker b;integ c;", policy.Policy{
		Conf: names(name("a", 1, 6)), Integ: names(name("c", 1, 25)), Attacker: name("b", 1, 17),
	})
	wantPolicy(t, "conf a , bb,c\n,\nd;\n  integ e,f; attacker # who\n g\n;conf h, i; integ j; conf k; integ l,m,n;", policy.Policy{
		Conf:     names(name("a", 1, 6), name("bb", 1, 10), name("c", 1, 13), name("d", 3, 1), name("h", 6, 7), name("i", 6, 10), name("k", 6, 27)),
		Integ:    names(name("e", 4, 9), name("f", 4, 11), name("j", 6, 19), name("l", 6, 36), name("m", 6, 38), name("n", 6, 40)),
		Attacker: name("g", 5, 2),
	})
	many := parse(t, "conf a"+strings.Repeat(", a", 999)+"; attacker b;")
	if len(many.Conf) != 1000 || many.Conf[999] != name("a", 1, 6+3*999) {
		t.Error("1000 points in one item:", len(many.Conf))
	}
	if p := parse(t, "attacker b;"); len(p.Conf)+len(p.Integ)+len(p.Order)+len(p.Hatches) != 0 || p.Len() != 0 {
		t.Error("an attacker alone:", p)
	}
}

func TestP7_1Orders(t *testing.T) {
	wantPolicy(t, "order a < b; attacker x; order\nc\n<\nd; order a<a;", policy.Policy{
		Order:    [][2]program.Name{{name("a", 1, 7), name("b", 1, 11)}, {name("c", 2, 1), name("d", 4, 1)}, {name("a", 4, 10), name("a", 4, 12)}},
		Attacker: name("x", 1, 23),
	})
}

func TestP7_1Hatches(t *testing.T) {
	p := wantPolicy(t, "hatch h = x + 1 to low in f;\nhatch g = 7 to high in main;\n hatch h\n= y; 2\nto p\nin f , main,g,f; attacker a;", policy.Policy{
		Attacker: name("a", 6, 27),
		Hatches: []policy.Hatch{
			{Name: name("h", 1, 7), Body: 2, To: name("low", 1, 20), In: names(name("f", 1, 27))},
			{Name: name("g", 2, 7), Body: 3, To: name("high", 2, 16), In: names(name("main", 2, 24))},
			{Name: name("h", 3, 8), Body: 6, To: name("p", 5, 4), In: names(name("f", 6, 4), name("main", 6, 8), name("g", 6, 13), name("f", 6, 15))},
		},
	})
	wantTree(t, p.Tree, "var x 0 1:11", "int  1 1:15", "+  0 1:13 0 1", "int  7 2:11", "var y 0 4:3", "int  2 4:6", "seq  0 4:4 4 5")
	many := parse(t, "attacker a; hatch h = 1 to p in f"+strings.Repeat(", f", 999)+";")
	if l := many.Hatches[0].In; len(l) != 1000 || l[999] != name("f", 1, 33+3*999) {
		t.Error("1000 functions of a hatch:", len(l))
	}
}

// The tree has the hatches' nodes as layer 5 puts them there one after the other, and no others.
func TestP7_1OneTree(t *testing.T) {
	bodies := []string{"1", "let x = a + 1 in x; x * 2", "if h then (1, 2) else release r (h)", "f(1, g(), !v)", "try v := 1; raise E with E -> ()", "out c 1; out c 2; hole k", "let to1 = 1 in not true or fst (x) = -7"}
	s, x, want := "", &tree.Tree{}, []int{}
	for i, b := range bodies {
		s += "hatch h = " + b + " to p in f; conf a; order a < b;\n"
		r, err := expr.New(strings.Repeat("\n", i) + strings.Repeat(" ", 10) + b)
		if err != nil {
			t.Fatal(b, err)
		}
		r.Tree = x
		n, err := r.Expr()
		if err != nil {
			t.Fatal(b, err)
		}
		want = append(want, n)
	}
	p := parse(t, s+"attacker a;")
	wantTree(t, p.Tree, nodes(x)...)
	var got []int
	for _, h := range p.Hatches {
		got = append(got, h.Body)
	}
	if !slices.Equal(got, want) {
		t.Errorf("the bodies: %v; want %v", got, want)
	}
}

// A mix of kinds: each keeps its own order, wherever the others stand, and the attacker may stand anywhere.
func TestP7_1Mixed(t *testing.T) {
	p := wantPolicy(t, `order a < b; hatch h = 1 to a in f;
integ c; conf d; attacker e; conf f; integ g;
hatch i = 2 to b in main; order c < d; conf j;
`, policy.Policy{
		Conf:     names(name("d", 2, 15), name("f", 2, 35), name("j", 3, 45)),
		Integ:    names(name("c", 2, 7), name("g", 2, 44)),
		Order:    [][2]program.Name{{name("a", 1, 7), name("b", 1, 11)}, {name("c", 3, 33), name("d", 3, 37)}},
		Attacker: name("e", 2, 27),
		Hatches: []policy.Hatch{
			{Name: name("h", 1, 20), Body: 0, To: name("a", 1, 29), In: names(name("f", 1, 34))},
			{Name: name("i", 3, 7), Body: 1, To: name("b", 3, 16), In: names(name("main", 3, 21))},
		},
	})
	wantTree(t, p.Tree, "int  1 1:24", "int  2 3:11")
}

// Points, hatches and functions may come again, and name nothing: that is not Parse's matter.
func TestP7_1NamesAreFree(t *testing.T) {
	p := parse(t, "conf a, a; integ a; conf a; order a < z; order z < a; attacker y; hatch a = x to w in v, v; hatch a = x to a in a;")
	if len(p.Conf) != 3 || len(p.Integ) != 1 || len(p.Order) != 2 || len(p.Hatches) != 2 || p.Attacker.Text != "y" {
		t.Error("items that are missing:", p)
	}
}

func TestP7_1NoAttacker(t *testing.T) {
	wantMissing(t, "conf a;", 1, 8)
	wantMissing(t, "conf attackers; integ a;\n", 2, 1)
	wantMissing(t, "hatch h = attackers to p in main;\n\n ", 3, 2)
	wantMissing(t, "order a < b; # attacker c;", 1, 27)
	wantMissing(t, confs(api.MaxDecls), 1, 8*api.MaxDecls+1)
}

func TestP7_1SecondAttacker(t *testing.T) {
	wantTwice(t, "attacker a; attacker b;", name("b", 1, 22))
	wantTwice(t, "attacker a; attacker a;", name("a", 1, 22))
	wantTwice(t, "attacker a;\nconf c;\nattacker # who\n  bb; attacker c;", name("bb", 4, 3))
	// what is wrong behind the point comes later in the text
	wantTwice(t, "attacker a; attacker b", name("b", 1, 22))
	wantTwice(t, "attacker a; attacker b c;", name("b", 1, 22))
	wantTwice(t, "attacker a; attacker b; conf;", name("b", 1, 22))
	// and what is wrong ahead of it earlier
	wantError(t, "attacker a; attacker", api.ErrSyntax, 1, 21)
	wantError(t, "attacker a; attacker;", api.ErrSyntax, 1, 21)
	wantError(t, "attacker a; attacker attacker b;", api.ErrSyntax, 1, 22)
	wantError(t, "attacker a; attacker 1; attacker b;", api.ErrSyntax, 1, 22)
	wantError(t, "attacker a attacker b;", api.ErrSyntax, 1, 12)
	wantError(t, "attacker a, b;", api.ErrSyntax, 1, 11)
	wantError(t, "attacker a; conf 1; attacker b;", api.ErrSyntax, 1, 18)
}

func TestP7_1TokensThatCantBe(t *testing.T) {
	for s, col := range map[string]int{
		"conf;": 5, "conf a b;": 8, "conf a,;": 8, "conf ,a;": 6, "conf a,,b;": 8, "conf 1;": 6, "conf (a);": 6, "conf a < b;": 8, "conf main;": 6, "conf a; ;": 9,
		"integ;": 6, "integ a b;": 9, "integ a,;": 9, "integ to;": 7,
		"order;": 6, "order a;": 8, "order a b;": 9, "order a <;": 10, "order a < b < c;": 13, "order a = b;": 9, "order a < 1;": 11, "order a, b < c;": 8, "order a < b, c;": 12,
		"attacker;": 9, "attacker 1;": 10, "attacker main;": 10, "attacker (a);": 10,
		"hatch;": 6, "hatch h;": 8, "hatch main = 1 to p in f;": 7, "hatch h 1 to p in f;": 9, "hatch h := 1 to p in f;": 9, "hatch h = to p in f;": 11, "hatch h = 1 p in f;": 13,
		"hatch h = 1 in f to p;": 13, "hatch h = 1 to in f;": 16, "hatch h = 1 to main in f;": 16, "hatch h = 1 to p, q in f;": 17, "hatch h = 1 to p f;": 18, "hatch h = 1 to p;": 17,
		"hatch h = 1 to p in;": 20, "hatch h = 1 to p in f g;": 23, "hatch h = 1 to p in f,;": 23, "hatch h = 1 to p in 1;": 21, "hatch h = 1 to p in main main;": 26, "hatch h = 1 to p in let;": 21,
		"hatch h = 1; to p in f;": 12, "hatch h = 1 to p in f() = 1;": 22, "hatch h(x) = 1 to p in f;": 8,
		"a;": 1, ";": 1, "1;": 1, "main = 1;": 1, "input i : {a b};": 1, "to;": 1, "<;": 1, "fun f() = 1;": 1,
	} {
		wantError(t, s, api.ErrSyntax, 1, col)
		wantError(t, s+" attacker a;", api.ErrSyntax, 1, col)
		wantError(t, "attacker a;\n"+s, api.ErrSyntax, 2, col)
	}
	wantError(t, "attacker a b;", api.ErrSyntax, 1, 12)
	wantError(t, "attacker a < b;", api.ErrSyntax, 1, 12)
}

func TestP7_1NoSemicolon(t *testing.T) {
	for _, s := range []string{"conf a", "conf a, b", "integ a", "order a < b", "hatch h = 1 to p in f", "hatch h = 1 to p in f, main", "hatch h = 1 to p in main", "attacker a"} {
		wantError(t, s, api.ErrSyntax, 1, len(s)+1) // at the end, ErrSyntax comes ahead of ErrMissing
		wantError(t, s+" \n conf b;", api.ErrSyntax, 2, 2)
		wantError(t, s+": conf b;", api.ErrSyntax, 1, len(s)+1)
		if s != "attacker a" {
			parse(t, s+"\n; attacker a;")
		}
	}
}

func TestP7_1Point(t *testing.T) {
	l := names(name("a", 1, 1), name("bb", 1, 2), name("a", 1, 3), name("", 1, 4), name("c", 1, 5), name("c", 1, 6))
	for s, want := range map[string]int{"a": 0, "bb": 1, "": 3, "c": 4, "b": -1, "A": -1, "a ": -1, "main": -1} {
		if got := policy.Point(l, s); got != want {
			t.Errorf("Point(.., %q) = %d; want %d", s, got, want)
		}
	}
	for _, l := range [][]program.Name{nil, {}, l[:0], l[1:2]} {
		if got := policy.Point(l, "a"); got != -1 {
			t.Errorf("Point(%v, a) = %d", l, got)
		}
	}
	p := parse(t, "conf low, mid; conf high, mid; attacker a;")
	if policy.Point(p.Conf, "high") != 2 || policy.Point(p.Conf, "mid") != 1 || policy.Point(p.Integ, "low") != -1 {
		t.Error("points of a policy:", p.Conf)
	}
}

// confs is that many items, each of 8 bytes.
func confs(n int) string { return strings.Repeat("conf a; ", n) }
