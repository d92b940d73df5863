package infer_test

import (
	"strconv"
	"strings"
	"testing"

	"whisper/api"
	"whisper/expr"
	"whisper/infer"
	"whisper/policy"
	"whisper/program"
	"whisper/scope"
	"whisper/tree"
)

const points = "conf low; integ ok; attacker ok;\n"

func parseProgram(t *testing.T, s string) *program.Program {
	t.Helper()
	p, err := program.Parse(s)
	if err != nil {
		t.Fatalf("the program %s: %v", s, err)
	}
	return p
}

func parsePolicy(t *testing.T, s string) *policy.Policy {
	t.Helper()
	q, err := policy.Parse(s)
	if err != nil {
		t.Fatalf("the policy %s: %v", s, err)
	}
	return q
}

// put adds an expression's nodes to a tree.
func put(t *tree.Tree, text string) int {
	x, i, err := expr.Parse(text)
	if err != nil {
		panic(err)
	}
	k, e := t.Copy(x, i, nil)
	if e != api.OK {
		panic(e)
	}
	return k
}

// tell is what Of returns, as a text: all of it.
func tell(x infer.Types, w scope.Wrong) string {
	var l []string
	for _, f := range x.Funs {
		l = append(l, f.Name+"["+strings.Join(f.Params, " | ")+"] "+f.Result)
	}
	s := strings.Join(l, "; ")
	if len(x.Hatches) > 0 {
		s += "; hatches: " + strings.Join(x.Hatches, " | ")
	}
	if len(w.Policy)+len(w.Program) > 0 {
		s = "wrong " + s + "the policy:" + tellDiags(w.Policy) + " the program:" + tellDiags(w.Program)
	}
	return s
}

func tellDiags(l []api.Diag) (s string) {
	for _, d := range l {
		s += " " + strconv.Itoa(d.At.Line) + ":" + strconv.Itoa(d.At.Col) + " " + strconv.Itoa(int(d.Code)) + " " + d.Name
	}
	return s
}

// declared is what the programs of the tests may use; it is one line.
const (
	declared = "input i : {low ok}; input k : {low ok}; global g : {low ok} = 1; channel c : {low ok}; exception E; exception F;\n"
	hatches  = points + "hatch num = i + 1 to low in main; hatch test = i < 1 to low in main;\n"
)

func scopeOf(t *testing.T, policyText, programText string) *scope.Scope {
	t.Helper()
	s, w := scope.Of(parseProgram(t, programText), parsePolicy(t, policyText))
	if s == nil {
		t.Fatalf("%s has no scope: %v", programText, w)
	}
	return s
}

// wantOf holds Of of a program, which begins in the second line, with the policy hatches.
func wantOf(t *testing.T, text, want string) {
	t.Helper()
	if got := tell(infer.Of(scopeOf(t, hatches, declared+text))); got != want+"; hatches: int | bool" {
		t.Errorf("%s: %s; want %s", text, got, want)
	}
}

// wantMain holds the type of an expression, as that of main.
func wantMain(t *testing.T, text, want string) {
	t.Helper()
	wantOf(t, "main =\n"+text+"\n;", "main[] "+want)
}

// wantWrong holds the error of a program, which begins in the second line: where it is, and with which Op.
func wantWrong(t *testing.T, text, want string) {
	t.Helper()
	at, op, _ := strings.Cut(want, " ")
	want = "wrong the policy: the program: " + at + " 10 " + op
	if got := tell(infer.Of(scopeOf(t, hatches, declared+text))); got != want {
		t.Errorf("%s: %s; want %s", text, got, want)
	}
}

// wantMainWrong is the same for main's expression, of one line, of which the column is told.
func wantMainWrong(t *testing.T, text, want string) {
	t.Helper()
	wantWrong(t, "main =\n"+text+"\n;", "3:"+want)
}

func TestP11_1TypesOfRows(t *testing.T) {
	for _, c := range [][2]string{
		{"7", "int"}, {"!g", "int"}, {"hole a", "int"},
		{"true", "bool"}, {"false", "bool"}, {"()", "unit"},
		{"- 1", "int"}, {"not true", "bool"},
		{"1 + 2", "int"}, {"1 - 2", "int"}, {"1 * 2", "int"},
		{"1 = 2", "bool"}, {"1 < 2", "bool"},
		{"true and false", "bool"}, {"true or false", "bool"},
		{"out c 1", "unit"}, {"g := 1", "unit"},
		{"i", "int"}, {"let x = true in x", "bool"},
		{"raise E", "'0"},
		{"(1, true)", "(int, bool)"}, {"((), (1, raise E))", "(unit, (int, '0))"},
		{"fst (1, true)", "int"}, {"snd (1, true)", "bool"},
		{"if true then () else ()", "unit"}, {"try () with E -> ()", "unit"},
		{"release num (i + 1)", "int"}, {"release test (i < 1)", "bool"},
		{"let x = 1 in ()", "unit"}, {"1; ()", "unit"}, {"1; true; ()", "unit"},
	} {
		wantMain(t, c[0], c[1])
	}
}

// ops is the Ops that want all of their Kids to be of one type, as texts in which an @ stands for a Kid, and the column of the node.
var ops = []struct {
	text, kid, is, op string
	col               int
}{
	{"- @", "int", "int", "neg", 1},
	{"not @", "bool", "bool", "not", 1},
	{"@ + @", "int", "int", "+", 0},
	{"@ - @", "int", "int", "-", 0},
	{"@ * @", "int", "int", "*", 0},
	{"@ = @", "int", "bool", "=", 0},
	{"@ < @", "int", "bool", "<", 0},
	{"@ and @", "bool", "bool", "and", 0},
	{"@ or @", "bool", "bool", "or", 0},
	{"out c @", "int", "unit", "out", 1},
	{"g := @", "int", "unit", "set", 1},
}

// samples is an expression of each kind of type.
var samples = []struct{ text, is string }{
	{"1", "int"}, {"true", "bool"}, {"()", "unit"}, {"(1, 2)", "(int, int)"}, {"(true, true)", "(bool, bool)"}, {"raise E", "open"}, {"fst (raise E)", "open"},
}

func TestP11_1EachKidOfEachType(t *testing.T) {
	for _, o := range ops {
		kids := strings.Count(o.text, "@")
		for n := range len(samples) * len(samples) {
			if kids == 1 && n >= len(samples) {
				break
			}
			a, b := samples[n%len(samples)], samples[n/len(samples)]
			text := strings.Replace(strings.Replace(o.text, "@", "("+a.text+")", 1), "@", "("+b.text+")", 1)
			fits := func(is string) bool { return is == o.kid || is == "open" }
			if fits(a.is) && (kids == 1 || fits(b.is)) {
				wantMain(t, text, o.is)
				continue
			}
			col := o.col
			if col == 0 {
				col = len(a.text) + 4
			}
			wantMainWrong(t, text, strconv.Itoa(col)+" "+o.op)
		}
	}
}

// An open type is one that a Kid is fitted with, afterwards, everywhere.
func TestP11_1EachKidIsFitted(t *testing.T) {
	for _, o := range ops {
		text := strings.Replace(strings.Replace(o.text, "@", "a", 1), "@", "b", 1)
		want := "fun[" + o.kid + " | " + o.kid + "]"
		if strings.Count(o.text, "@") == 1 {
			want = "fun[" + o.kid + " | '0]"
		}
		wantOf(t, "fun f(a, b) = "+text+"; main = 1;", strings.Replace(want, "fun", "f", 1)+" "+o.is+"; main[] int")
	}
	for _, c := range [][2]string{
		{"if a then b else d", "bool | '0 | '0] '0"},
		{"if a then b else 1", "bool | int | '0] int"},
		{"if a then () else b", "bool | unit | '0] unit"},
		{"try a with E -> b", "'0 | '0 | '1] '0"},
		{"try true with E -> b", "'0 | bool | '1] bool"},
		{"try d with E -> ((), 1)", "'0 | '1 | (unit, int)] (unit, int)"},
		{"fst a", "('0, '1) | '2 | '3] '0"},
		{"snd a", "('0, '1) | '2 | '3] '1"},
		{"snd fst d", "'0 | '1 | (('2, '3), '4)] '3"},
		{"(b, a)", "'0 | '1 | '2] ('1, '0)"},
		{"let x = a in x + 1", "int | '0 | '1] int"},
		{"a; d", "'0 | '1 | '2] '2"},
	} {
		wantOf(t, "fun f(a, b, d) = "+c[0]+"; main = 1;", "f["+c[1]+"; main[] int")
	}
}

func TestP11_1If(t *testing.T) {
	for _, c := range [][2]string{
		{"if 1 < 2 then 3 else 4", "int"}, {"if raise E then 3 else 4", "int"}, {"if true then raise E else 4", "int"},
		{"if true then (1, raise E) else (raise F, true)", "(int, bool)"}, {"if true then raise E else raise E", "'0"},
	} {
		wantMain(t, c[0], c[1])
	}
	for _, c := range [][2]string{
		{"if 1 then 2 else 3", "1 if"}, {"if () then 2 else 3", "1 if"}, {"if (true, true) then 2 else 3", "1 if"},
		{"if true then 2 else true", "1 if"}, {"if true then () else 2", "1 if"}, {"if true then (1, 2) else 2", "1 if"},
		{"if true then (1, 2) else (1, true)", "1 if"}, {"if true then (1, 2) else ((), 2)", "1 if"}, {"if true then (1, 2) else (1, (2, 3))", "1 if"},
		{"1 + (if true then true else false)", "3 +"},
	} {
		wantMainWrong(t, c[0], c[1])
	}
}

func TestP11_1Try(t *testing.T) {
	wantMain(t, "try raise E with E -> true", "bool")
	wantMain(t, "try true with E -> raise F", "bool")
	wantMain(t, "try raise E with E -> raise F", "'0")
	for _, text := range []string{"try 1 with E -> true", "try () with E -> 1", "try (1, 1) with E -> 1", "try (1, raise E) with E -> (true, 1)"} {
		wantMainWrong(t, text, "1 try")
	}
}

// A raise has each type that is wanted, and each raise its own.
func TestP11_1Raise(t *testing.T) {
	wantMain(t, "((raise E) + 1, ((raise E) and true, (fst (raise E), release test (raise E))))", "(int, (bool, ('0, bool)))")
	wantMain(t, "(raise E, (raise F, raise E))", "('0, ('1, '2))")
	wantMain(t, "let x = raise E in (x, x)", "('0, '0)")
	wantMain(t, "let x = raise E in (x + 1; x)", "int")
	wantMainWrong(t, "let x = raise E in (x + 1; not x)", "28 not")
	wantOf(t, "fun f(a) = a; main = f(raise E); f(raise F); f(raise E);", "f['0] '0; main[] '0")
}

func TestP11_1Halves(t *testing.T) {
	for _, c := range [][2]string{
		{"fst ((1, true), ())", "(int, bool)"}, {"snd fst ((1, true), ())", "bool"}, {"snd ((), (1, true))", "(int, bool)"},
		{"fst (raise E)", "'0"}, {"snd (raise E)", "'0"}, {"let x = raise E in (fst x; x)", "('0, '1)"},
		{"let x = raise E in (fst x + 1; not snd x; x)", "(int, bool)"}, {"let x = raise E in (fst x; snd x)", "'0"},
		{"let x = raise E in (fst x, (fst x, snd x))", "('0, ('0, '1))"},
	} {
		wantMain(t, c[0], c[1])
	}
	for _, op := range []string{"fst", "snd"} {
		for _, text := range []string{"1", "true", "()", "(1 = 2)", "- 1", "i", "hole a", op + " (1, 1)"} {
			wantMainWrong(t, op+" "+text, "1 "+op)
		}
	}
	wantMainWrong(t, "let x = raise E in (fst x + 1; not fst x)", "32 not")
}

// A pair in which it would occur itself.
func TestP11_1OwnPart(t *testing.T) {
	for _, c := range [][2]string{
		{"fun f(a) = if true then a else (a, 1); main = 1;", "2:12 if"},
		{"fun f(a) = if true then (1, a) else a; main = 1;", "2:12 if"},
		{"fun f(a) = try a with E -> (1, (a, 2)); main = 1;", "2:12 try"},
		{"fun f(a) = f((a, a)); main = 1;", "2:12 call"},
		{"fun f(a) = (f(a), 1); main = 1;", "2:12 pair"},
		{"fun f(a) = fst f(a); main = 1;", "2:12 fst"},
		{"fun f(a) = f(fst a); main = 1;", "2:12 call"},
		{"fun f(a) = f(a); fun g(a) = (g(a), a); main = 1;", "2:29 pair"},
		{"fun f(a, b) = if true then a else (b, 1); fun g(x) = f(x, (x, 1)); main = 1;", "2:54 call"},
		{"main = let x = raise E in if true then x else fst x;", "2:27 if"},
		{"main = let x = raise E in try (x, x) with E -> x;", "2:27 try"},
	} {
		wantWrong(t, c[0], c[1])
	}
	wantOf(t, "fun f(a) = if true then a else a; main = f(f(f(1)));", "f[int] int; main[] int")
	wantOf(t, "fun f(a) = fst a; fun g(a) = f((a, a)); main = 1;", "f[('0, '0)] '0; g['0] '0; main[] int")
}

func TestP11_1Release(t *testing.T) {
	for _, c := range [][2]string{{"release num (1)", "int"}, {"release num (raise E)", "int"}, {"release test (raise E)", "bool"}, {"release test (true or false)", "bool"}} {
		wantMain(t, c[0], c[1])
	}
	for _, c := range [][2]string{
		{"release num (true)", "1 release"}, {"release num (())", "1 release"}, {"release num (i < 1)", "1 release"},
		{"release test (1)", "1 release"}, {"release test ((true, true))", "1 release"}, {"not release num (1)", "1 not"}, {"1; release test (i + 1)", "4 release"},
	} {
		wantMainWrong(t, c[0], c[1])
	}
	wantOf(t, "fun f(a, b) = (release num (a), release test (b)); main = 1;", "f[int | bool] (int, bool); main[] int")
}

// Of two errors it is the one at the node that comes first, each after its Kids, and these in order.
func TestP11_1FirstError(t *testing.T) {
	for _, c := range [][2]string{
		{"1 + not 1", "5 not"}, {"not 1 + ()", "1 not"}, {"(not 1) + (not 2)", "2 not"}, {"not (1 + ())", "8 +"},
		{"(1 + (), not 1)", "4 +"}, {"not 1; - true", "1 not"}, {"1; - true", "4 neg"}, {"(- true, 1) + 1", "2 neg"},
		{"if - true then not 1 else - true", "4 neg"}, {"if 1 then not 1 else 2", "11 not"}, {"if 1 then 2 else not 1", "18 not"},
		{"if true then not 1 else - true", "14 not"}, {"if 1 then true else 2", "1 if"},
		{"try not 1 with E -> - true", "5 not"}, {"try 1 with E -> - true", "17 neg"},
		{"let x = not 1 in - true", "9 not"}, {"let x = 1 in not x", "14 not"}, {"let x = 1 in not x; - true", "14 not"},
		{"out c not 1", "7 not"}, {"g := - true", "6 neg"}, {"fst fst 1", "5 fst"}, {"snd fst (1, 2)", "1 snd"}, {"release num (not 1)", "14 not"}, {"release test (fst 1)", "15 fst"},
		{"- - true", "3 neg"}, {"not not 1", "5 not"}, {"1 + true + not 1", "3 +"}, {"1 - (2 - (3 - ()))", "13 -"}, {"1 * true and 1", "3 *"},
		{"(1 < true) = (2 = false)", "4 <"}, {"(1, (2, not 3))", "9 not"},
	} {
		wantMainWrong(t, c[0], c[1])
	}
	// An error that needs both of two nodes is at the later one.
	wantWrong(t, "fun f(a) = (a + 1, not a); main = 1;", "2:20 not")
	wantWrong(t, "fun f(a) = (not a, a + 1); main = 1;", "2:22 +")
	wantWrong(t, "fun f(a) = if a then a else 1; main = 1;", "2:12 if")
	wantWrong(t, "fun f(a) = not a; fun g() = f(1); main = - true;", "2:29 call")
	wantWrong(t, "fun f() = - true; fun g() = not 1; main = fst 1;", "2:11 neg")
	wantWrong(t, "main = fst 1; fun g() = not 1;", "2:25 not")
	wantWrong(t, "fun g() = 1; main = fst 1; fun f() = snd 2;", "2:38 snd")
}

func TestP11_1Variables(t *testing.T) {
	for _, c := range [][2]string{
		{"let x = true in let x = 1 in x", "int"}, {"let x = true in (let x = 1 in x, x)", "(int, bool)"},
		{"let x = true in ((let x = 1 in x), x)", "(int, bool)"}, {"let x = 1 in let x = (x, x) in let x = (x, true) in x", "((int, int), bool)"},
		{"let x = let x = true in (x, 1) in x", "(bool, int)"}, {"let x = 1 in let y = true in (x, y)", "(int, bool)"}, {"let y = () in let x = y in x", "unit"},
		{"i + k", "int"}, {"(i, let x = true in (i, x))", "(int, (int, bool))"}, {"let x = raise E in let y = x in (y + 1; x)", "int"},
	} {
		wantMain(t, c[0], c[1])
	}
	wantMainWrong(t, "not i", "1 not")
	wantMainWrong(t, "let x = 1 in not x", "14 not")
	wantMainWrong(t, "let x = true in let x = 1 in not x", "30 not")
	wantMainWrong(t, "let x = true in (let x = 1 in 2) + x", "34 +")
	for _, c := range [][2]string{
		{"fun f(a) = let a = true in a; main = 1;", "f['0] bool; main[] int"},
		{"fun f(a) = let a = (a, a) in a; main = 1;", "f['0] ('0, '0); main[] int"},
		{"fun f(a) = ((let a = true in a), a + 1); main = 1;", "f[int] (bool, int); main[] int"},
		{"fun f(a, b) = (b, a); main = 1;", "f['0 | '1] ('1, '0); main[] int"},
		{"fun f(a) = not a; fun g(a) = a + 1; main = let a = () in a;", "f[bool] bool; g[int] int; main[] unit"},
		{"fun f(a) = (a, i); main = f(true);", "f[bool] (bool, int); main[] (bool, int)"},
		{"fun g(f) = f; fun f(g) = g + 1; main = g(true);", "g[bool] bool; f[int] int; main[] bool"},
	} {
		wantOf(t, c[0], c[1])
	}
	wantWrong(t, "fun f(a) = let a = true in a + 1; main = 1;", "2:30 +")
	wantWrong(t, "fun f(a) = not i; main = 1;", "2:12 not")
}
