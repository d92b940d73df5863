package program_test

import (
	"errors"
	"slices"
	"strconv"
	"strings"
	"testing"

	"whisper/api"
	"whisper/expr"
	"whisper/program"
	"whisper/tree"
)

// The tests of P6.1, each named after the part of it that it holds.

func pos(line, col int) api.Pos { return api.Pos{Line: line, Col: col} }

func name(s string, line, col int) program.Name {
	return program.Name{Text: s, At: pos(line, col)}
}

func short(s string) string {
	if len(s) > 80 {
		return strconv.Quote(s[:80]) + ".. (" + strconv.Itoa(len(s)) + " bytes)"
	}
	return strconv.Quote(s)
}

func parse(t *testing.T, s string) *program.Program {
	t.Helper()
	p, err := program.Parse(s)
	if err != nil || p == nil || p.Tree == nil {
		t.Fatalf("Parse(%s) = %v, %v", short(s), p, err)
	}
	return p
}

func wantDiag(t *testing.T, s string, want api.Diag) {
	t.Helper()
	p, err := program.Parse(s)
	var d api.Diag
	if !errors.As(err, &d) || d != want {
		t.Errorf("Parse(%s): %v; want %v", short(s), err, want)
	}
	if !errors.Is(err, want.Code) {
		t.Errorf("Parse(%s): %v does not wrap %v", short(s), err, want.Code)
	}
	if p != nil {
		t.Errorf("Parse(%s) is a program beside an error", short(s))
	}
}

// wantError is for errors without a name.
func wantError(t *testing.T, s string, code api.Errno, at api.Pos) {
	t.Helper()
	wantDiag(t, s, api.Diag{Code: code, At: at})
}

// wantMain is for those that bear the name main.
func wantMain(t *testing.T, s string, code api.Errno, at api.Pos) {
	t.Helper()
	wantDiag(t, s, api.Diag{Code: code, At: at, Name: "main"})
}

func wantDecls(t *testing.T, what string, got, want []program.Decl) {
	t.Helper()
	if !slices.Equal(got, want) {
		t.Errorf("%s: %v; want %v", what, got, want)
	}
}

func wantFun(t *testing.T, got, want program.Fun) {
	t.Helper()
	if got.Name != want.Name || got.Body != want.Body || !slices.Equal(got.Params, want.Params) {
		t.Errorf("a fun: %v; want %v", got, want)
	}
}

// wantFuns holds all funs, and main behind them, against others.
func wantFuns(t *testing.T, p *program.Program, want ...program.Fun) {
	t.Helper()
	got := append(slices.Clone(p.Funs), p.Main)
	if len(got) != len(want) {
		t.Fatalf("funs and main: %v; want %v", got, want)
	}
	for i := range got {
		wantFun(t, got[i], want[i])
	}
}

// nodes is all that a tree holds, as text.
func nodes(x *tree.Tree) string {
	var b strings.Builder
	for i := range x.Len() {
		n, _ := x.Get(i)
		b.WriteString(n.Op + "|" + n.Name + "|" + strconv.FormatInt(n.Int, 10))
		b.WriteString("|" + strconv.Itoa(n.At.Line) + ":" + strconv.Itoa(n.At.Col))
		for _, k := range n.Kids {
			b.WriteString(" " + strconv.Itoa(k))
		}
		b.WriteString("\n")
	}
	return b.String()
}

func TestP6_1Example(t *testing.T) {
	p := parse(t, "input h : {high low}; main = h;")
	wantDecls(t, "Inputs", p.Inputs, []program.Decl{{Name: name("h", 1, 7), Conf: name("high", 1, 12), Integ: name("low", 1, 17)}})
	wantFuns(t, p, program.Fun{Name: name("main", 1, 23), Body: 0})
	if len(p.Globals)+len(p.Channels)+len(p.Exns) != 0 {
		t.Error("declarations that are none:", p.Globals, p.Channels, p.Exns)
	}
	if got := nodes(p.Tree); got != "var|h|0|1:30\n" {
		t.Error("the tree:", got)
	}
	if program.Main != "main" {
		t.Error("Main is", program.Main)
	}
}

func TestP6_1NoTokens(t *testing.T) {
	for _, c := range []struct {
		s  string
		at api.Pos
	}{
		{"", pos(1, 1)}, {" ", pos(1, 2)}, {"\n\n", pos(3, 1)}, {"# main = 1;", pos(1, 12)}, {"\n  # x\n ", pos(3, 2)},
		{strings.Repeat(" ", api.MaxBytes), pos(1, api.MaxBytes+1)},
	} {
		wantMain(t, c.s, api.ErrMissing, c.at)
	}
}

func TestP6_1TokenErrors(t *testing.T) {
	const good = "main = 1;"
	for _, c := range []struct {
		s    string
		code api.Errno
		at   api.Pos
	}{
		{good + strings.Repeat(" ", api.MaxBytes), api.ErrLimit, pos(1, 1)},
		{good + "\n \xff", api.ErrText, pos(2, 2)},
		{good + "\n $", api.ErrToken, pos(2, 2)},
		{"input " + strings.Repeat("a", api.MaxName+1) + " : {l l}; " + good, api.ErrLimit, pos(1, 7)},
		{"global g : {l l} =\n- " + strings.Repeat("1", api.MaxDigits+1) + "; " + good, api.ErrLimit, pos(2, 3)},
		// all ahead of what else is wrong, though that comes first
		{"x $", api.ErrToken, pos(1, 3)},
		{"main $", api.ErrToken, pos(1, 6)},
		{"main = 1; main = 2; $", api.ErrToken, pos(1, 21)},
		{exceptions(api.MaxDecls+1) + "\n$", api.ErrToken, pos(2, 1)},
		{"main = " + strings.Repeat("(", 70) + "\n \xc0", api.ErrText, pos(2, 2)},
		{"$ \xff", api.ErrText, pos(1, 3)},
	} {
		wantError(t, c.s, c.code, c.at)
	}
	if p := parse(t, good+strings.Repeat(" ", api.MaxBytes-len(good))); p.Main.Text != "main" {
		t.Error("the longest text:", p.Main)
	}
	a := strings.Repeat("a", api.MaxName)
	if p := parse(t, "exception "+a+"; "+good); p.Exns[0].Text != a {
		t.Error("the longest name:", p.Exns)
	}
}

func TestP6_1Decls(t *testing.T) {
	p := parse(t, "input a : {b c};\n global d\n: {e\nf}\n=\n 7;channel g:{h i};\nexception j; main = ();")
	wantDecls(t, "Inputs", p.Inputs, []program.Decl{{Name: name("a", 1, 7), Conf: name("b", 1, 12), Integ: name("c", 1, 14)}})
	wantDecls(t, "Globals", p.Globals, []program.Decl{{Name: name("d", 2, 9), Conf: name("e", 3, 4), Integ: name("f", 4, 1), Int: 7}})
	wantDecls(t, "Channels", p.Channels, []program.Decl{{Name: name("g", 6, 12), Conf: name("h", 6, 15), Integ: name("i", 6, 17)}})
	wantDecls(t, "Exns", p.Exns, []program.Decl{{Name: name("j", 7, 11)}})
	wantFuns(t, p, program.Fun{Name: name("main", 7, 14)})
}

// Names may come again, and name nothing: that is not this layer's matter.
func TestP6_1NamesAreFree(t *testing.T) {
	p := parse(t, "input a : {a a}; input a : {a b}; global a : {a a} = 1; channel a : {a a}; exception a; fun a(a, a) = a; fun a() = b; main = c(d);")
	if len(p.Inputs) != 2 || len(p.Globals) != 1 || len(p.Channels) != 1 || len(p.Exns) != 1 || len(p.Funs) != 2 {
		t.Error("declarations that are missing:", p)
	}
	wantDecls(t, "Inputs", p.Inputs, []program.Decl{
		{Name: name("a", 1, 7), Conf: name("a", 1, 12), Integ: name("a", 1, 14)},
		{Name: name("a", 1, 24), Conf: name("a", 1, 29), Integ: name("b", 1, 31)},
	})
	if want := []program.Name{name("a", 1, 95), name("a", 1, 98)}; !slices.Equal(p.Funs[0].Params, want) {
		t.Error("params:", p.Funs[0].Params)
	}
}

func TestP6_1Numbers(t *testing.T) {
	for s, want := range map[string]int64{
		"0": 0, "-0": 0, "- 0": 0, "1": 1, "-1": -1, "-\n1": -1, "- # minus\n12": -12, "0012": 12, "-0012": -12,
		"999999999999999999": 999999999999999999, "-999999999999999999": -999999999999999999,
	} {
		p := parse(t, "global g : {l m} = "+s+"; main = 1;")
		wantDecls(t, "Globals of "+s, p.Globals, []program.Decl{{Name: name("g", 1, 8), Conf: name("l", 1, 13), Integ: name("m", 1, 15), Int: want}})
	}
	for _, s := range []string{"x", "", "true", "()", "+ 1", "(1)"} {
		wantError(t, "global g : {l m} = "+s+"; main = 1;", api.ErrSyntax, pos(1, 20))
	}
	for _, s := range []string{"--1", "-x", "-", "-(1)", "1-1", "1 1", "1+1"} {
		wantError(t, "global g : {l m} =\n"+s+"; main = 1;", api.ErrSyntax, pos(2, 2+strings.Count(s, " ")))
	}
}

func TestP6_1Funs(t *testing.T) {
	p := parse(t, "fun f() = 1;\nfun g(a) = a;\nfun h ( a ,\nb, cc )\n= a + b; main = f();")
	wantFuns(t, p,
		program.Fun{Name: name("f", 1, 5), Body: 0},
		program.Fun{Name: name("g", 2, 5), Params: []program.Name{name("a", 2, 7)}, Body: 1},
		program.Fun{Name: name("h", 3, 5), Params: []program.Name{name("a", 3, 9), name("b", 4, 1), name("cc", 4, 4)}, Body: 4},
		program.Fun{Name: name("main", 5, 10), Body: 5})
	many := "a" + strings.Repeat(", a", 499)
	if p := parse(t, "fun f("+many+") = 1; main = 1;"); len(p.Funs[0].Params) != 500 || p.Funs[0].Params[499] != name("a", 1, 7+3*499) {
		t.Error("500 params:", len(p.Funs[0].Params))
	}
	for s, col := range map[string]int{
		"fun f(,) = 1;": 7, "fun f(a,) = 1;": 9, "fun f(a,,b) = 1;": 9, "fun f(a b) = 1;": 9, "fun f(a; b) = 1;": 8, "fun f(1) = 1;": 7,
		"fun f((a)) = 1;": 7, "fun f(a: b) = 1;": 8, "fun f(main) = 1;": 7, "fun f = 1;": 7, "fun (a) = 1;": 5, "fun main() = 1;": 5,
		"fun f() 1;": 9, "fun f() = ;": 11, "fun f() := 1;": 9, "fun f()() = 1;": 8, "fun f(": 7, "fun f(a": 8, "fun f(a,": 9, "fun f()": 8, "fun f() =": 10,
	} {
		wantError(t, s, api.ErrSyntax, pos(1, col))
	}
}

// A mix of kinds: each keeps its own order, wherever the others stand, and main may stand anywhere.
func TestP6_1Mixed(t *testing.T) {
	p := parse(t, `exception e1;
fun f1() = 1; channel c1 : {p q}; global g1 : {p q} = -1;
main = 2;
input i1 : {p q}; exception e2; global g2 : {r s} = 2;
channel c2 : {r s};
fun f2(x) = 3; input i2 : {r s}; exception e3; fun f3() = 4;
`)
	wantDecls(t, "Inputs", p.Inputs, []program.Decl{
		{Name: name("i1", 4, 7), Conf: name("p", 4, 13), Integ: name("q", 4, 15)},
		{Name: name("i2", 6, 22), Conf: name("r", 6, 28), Integ: name("s", 6, 30)},
	})
	wantDecls(t, "Globals", p.Globals, []program.Decl{
		{Name: name("g1", 2, 42), Conf: name("p", 2, 48), Integ: name("q", 2, 50), Int: -1},
		{Name: name("g2", 4, 40), Conf: name("r", 4, 46), Integ: name("s", 4, 48), Int: 2},
	})
	wantDecls(t, "Channels", p.Channels, []program.Decl{
		{Name: name("c1", 2, 23), Conf: name("p", 2, 29), Integ: name("q", 2, 31)},
		{Name: name("c2", 5, 9), Conf: name("r", 5, 15), Integ: name("s", 5, 17)},
	})
	wantDecls(t, "Exns", p.Exns, []program.Decl{{Name: name("e1", 1, 11)}, {Name: name("e2", 4, 29)}, {Name: name("e3", 6, 44)}})
	wantFuns(t, p,
		program.Fun{Name: name("f1", 2, 5), Body: 0},
		program.Fun{Name: name("f2", 6, 5), Params: []program.Name{name("x", 6, 8)}, Body: 2},
		program.Fun{Name: name("f3", 6, 52), Body: 3},
		program.Fun{Name: name("main", 3, 1), Body: 1})
	if want := "int||1|2:12\nint||2|3:8\nint||3|6:13\nint||4|6:59\n"; nodes(p.Tree) != want {
		t.Errorf("the tree:\n%swant:\n%s", nodes(p.Tree), want)
	}
}

// The tree has the bodies' nodes as layer 5 puts them there one after the other, and no others.
func TestP6_1OneTree(t *testing.T) {
	bodies := []string{"1", "let x = a + 1 in x; x * 2", "if h then (1, 2) else release r (h)", "f(1, g(), !v)", "try v := 1; raise E with E -> ()", "out c 1; out c 2; hole k", "not true or fst (x) = -7"}
	for k := range bodies { // the main comes first, last, and at each place between
		s, want, x := "", []int{}, &tree.Tree{}
		for i, b := range bodies {
			head := "fun f(x) = "
			if i == k {
				head = "main = "
			}
			s += head + b + ";\n"
			r, err := expr.New(strings.Repeat("\n", i) + strings.Repeat(" ", len(head)) + b)
			if err != nil {
				t.Fatal(b, err)
			}
			r.Tree = x
			n, err := r.Expr()
			if err != nil {
				t.Fatal(b, err)
			}
			want = append(want, n)
		}
		p := parse(t, s)
		if nodes(p.Tree) != nodes(x) {
			t.Errorf("the tree of %q:\n%swant:\n%s", s, nodes(p.Tree), nodes(x))
		}
		var got []int
		for _, f := range p.Funs {
			got = append(got, f.Body)
		}
		if got = slices.Insert(got, k, p.Main.Body); !slices.Equal(got, want) {
			t.Errorf("the bodies of %q: %v; want %v", s, got, want)
		}
		if p.Main.Name != name("main", k+1, 1) {
			t.Errorf("Main is called %v", p.Main.Name)
		}
	}
}

// A ; within a body goes on if an item may begin behind it, and ends it otherwise.
func TestP6_1BodyGoesOn(t *testing.T) {
	p := parse(t, "fun f() = 1; 2; fun g() = let x = 3 in 4; x := 5;\nmain = 6; (7); -8;")
	want := []string{"seq", "let", "seq"}
	for i, f := range []program.Fun{p.Funs[0], p.Funs[1], p.Main} {
		if n, _ := p.Get(f.Body); n.Op != want[i] {
			t.Errorf("the body of %s is a %s; want a %s", f.Text, n.Op, want[i])
		}
	}
	if len(p.Funs) != 2 {
		t.Error("funs:", p.Funs)
	}
	wantError(t, "main = 1; 2", api.ErrSyntax, pos(1, 12))
	wantError(t, "main = 1;;", api.ErrSyntax, pos(1, 10))
	wantError(t, "main = 1; in;", api.ErrSyntax, pos(1, 11))
	wantError(t, "main = 1; x : 2;", api.ErrSyntax, pos(1, 13))
	wantError(t, "exception E; x := 2; main = 1;", api.ErrSyntax, pos(1, 14))
}

func TestP6_1Main(t *testing.T) {
	for s, at := range map[string]api.Pos{
		"main = 1;": pos(1, 1), "\n\n  main\n=\n1\n;\n": pos(3, 3), "fun f() = 1; main = f();": pos(1, 14), "main = 1; exception E;": pos(1, 1),
	} {
		p := parse(t, s)
		if p.Main.Name != (program.Name{Text: "main", At: at}) || len(p.Main.Params) != 0 {
			t.Errorf("Main of %q is %v", s, p.Main)
		}
		for _, f := range p.Funs {
			if f.Text == "main" {
				t.Errorf("main is among the funs of %q", s)
			}
		}
	}
}

func TestP6_1NoMain(t *testing.T) {
	for s, at := range map[string]api.Pos{
		"input h : {high low};":              pos(1, 22),
		"exception E;\n":                     pos(2, 1),
		"exception E; # main = 1;":           pos(1, 25),
		"fun f() = 1; fun mains() = 2;\n\n ": pos(3, 2),
		exceptions(api.MaxDecls):             pos(1, 13*api.MaxDecls+1),
	} {
		wantMain(t, s, api.ErrMissing, at)
	}
}

func TestP6_1TwoMains(t *testing.T) {
	for s, at := range map[string]api.Pos{
		"main = 1; main = 2;":                                           pos(1, 11),
		"main = 1;\nexception E;\n main = 1;":                           pos(3, 2),
		"main = 1; main = 2; main = 3;":                                 pos(1, 11),
		"fun f() = 1; main = 1; fun g() = 2; 3; main = 1; exception E;": pos(1, 40),
		// what is wrong behind that word comes later in the text
		"main = 1; main":              pos(1, 11),
		"main = 1; main main":         pos(1, 11),
		"main = 1; main = ;":          pos(1, 11),
		"main = 1; main = 2":          pos(1, 11),
		"main = 1; main(x) = 2;":      pos(1, 11),
		"main = 1; main = 2; let":     pos(1, 11),
		"main = 1; main = 2; input x": pos(1, 11),
	} {
		wantMain(t, s, api.ErrTwice, at)
	}
	for s, at := range map[string]api.Pos{
		"main = main; main = 2;":           pos(1, 8), // a word that can't be there is no second main
		"main = 1 main = 2;":               pos(1, 10),
		"main = 1; input main : {a b};":    pos(1, 17),
		"main = 1; input x : {main main};": pos(1, 22),
		"main = 1; fun main() = 2;":        pos(1, 15),
		"main main = 1;":                   pos(1, 6),
		"main = 1; exception; main = 2;":   pos(1, 20),
		"main = 1; main2 : 2;":             pos(1, 17),
	} {
		wantError(t, s, api.ErrSyntax, at)
	}
}

// exceptions is that many declarations, each of 13 bytes.
func exceptions(n int) string { return strings.Repeat("exception E; ", n) }
