package expr_test

import (
	"errors"
	"slices"
	"strconv"
	"strings"
	"testing"

	"whisper/api"
	"whisper/expr"
	"whisper/lex"
	"whisper/tree"
)

// The tests of P5.1 and P5.2, each named after the part of them that it holds.

func pos(line, col int) api.Pos { return api.Pos{Line: line, Col: col} }

func short(s string) string {
	if len(s) > 80 {
		return strconv.Quote(s[:80]) + ".. (" + strconv.Itoa(len(s)) + " bytes)"
	}
	return strconv.Quote(s)
}

// show is an expression with all its brackets, the Name and Int of each node, and the column at which it is.
func show(t *tree.Tree, i int) string {
	n, ok := t.Get(i)
	if !ok {
		return "?"
	}
	s := "(" + n.Op
	if n.Name != "" {
		s += " " + n.Name
	}
	if n.Int != 0 {
		s += " " + strconv.FormatInt(n.Int, 10)
	}
	s += " @" + strconv.Itoa(n.At.Col)
	for _, k := range n.Kids {
		s += " " + show(t, k)
	}
	return s + ")"
}

// shape is show without the columns, and without the brackets of nodes that have no parts.
func shape(t *tree.Tree, i int) string {
	n, ok := t.Get(i)
	if !ok {
		return "?"
	}
	if len(n.Kids) == 0 && n.Name != "" {
		return n.Name
	}
	if n.Op == "int" {
		return strconv.FormatInt(n.Int, 10)
	}
	s := "(" + n.Op
	for _, k := range n.Kids {
		s += " " + shape(t, k)
	}
	return s + ")"
}

func wantParsed(t *testing.T, s, want string, as func(*tree.Tree, int) string) {
	t.Helper()
	x, i, err := expr.Parse(s)
	if err != nil {
		t.Errorf("Parse(%s): %v; want %s", short(s), err, want)
	} else if got := as(x, i); got != want {
		t.Errorf("Parse(%s) = %s; want %s", short(s), got, want)
	}
}

// wantGood is for texts that are too long to tell their trees.
func wantGood(t *testing.T, s string, nodes int) {
	t.Helper()
	x, i, err := expr.Parse(s)
	if err != nil || x.Len() != nodes || i != nodes-1 {
		t.Errorf("Parse(%s) = %d of %d nodes, %v; want %d nodes", short(s), i, x.Len(), err, nodes)
	}
}

func wantDiag(t *testing.T, what string, err error, want api.Diag) {
	t.Helper()
	var d api.Diag
	if !errors.As(err, &d) || d != want {
		t.Errorf("%s: %v; want %v", what, err, want)
	}
	if !errors.Is(err, want.Code) {
		t.Errorf("%s: %v does not wrap %v", what, err, want.Code)
	}
}

func wantError(t *testing.T, s string, code api.Errno, at api.Pos) {
	t.Helper()
	x, i, err := expr.Parse(s)
	wantDiag(t, "Parse("+short(s)+")", err, api.Diag{Code: code, At: at})
	if x != nil || i != 0 {
		t.Errorf("Parse(%s) = %v, %d beside an error", short(s), x, i)
	}
}

func reader(t *testing.T, s string) *expr.Reader {
	t.Helper()
	r, err := expr.New(s)
	if err != nil || r == nil {
		t.Fatalf("New(%s) = %v, %v", short(s), r, err)
	}
	return r
}

func TestP5_1New(t *testing.T) {
	r := reader(t, "let x")
	if r.Tree == nil || r.Len() != 0 {
		t.Errorf("New's tree has %d nodes", r.Len())
	}
	if want := (lex.Token{Kind: lex.Word, Text: "let", At: pos(1, 1)}); r.Next() != want {
		t.Errorf("Next() = %v; want %v", r.Next(), want)
	}
	other := reader(t, "let x")
	other.Take("let")
	if !r.Is("let") || r.Tree == other.Tree {
		t.Error("two readers have something in common")
	}
}

func TestP5_1NewErrors(t *testing.T) {
	for _, c := range []struct {
		s    string
		code api.Errno
		at   api.Pos
	}{
		{strings.Repeat(" ", api.MaxBytes+1), api.ErrLimit, pos(1, 1)},
		{"x\n \xff", api.ErrText, pos(2, 2)},
		{"x + $", api.ErrToken, pos(1, 5)},
		{"1 1 $", api.ErrToken, pos(1, 5)}, // ahead of ErrSyntax, though it comes later
		{"\n" + strings.Repeat("a", api.MaxName+1), api.ErrLimit, pos(2, 1)},
		{"- " + strings.Repeat("1", api.MaxDigits+1), api.ErrLimit, pos(1, 3)},
	} {
		r, err := expr.New(c.s)
		wantDiag(t, "New("+short(c.s)+")", err, api.Diag{Code: c.code, At: c.at})
		if r != nil {
			t.Errorf("New(%s) is a reader beside an error", short(c.s))
		}
		wantError(t, c.s, c.code, c.at)
	}
}

func TestP5_1Next(t *testing.T) {
	r := reader(t, "let\n x 12 :=")
	for _, want := range []lex.Token{
		{Kind: lex.Word, Text: "let", At: pos(1, 1)},
		{Kind: lex.Name, Text: "x", At: pos(2, 2)},
		{Kind: lex.Number, Text: "12", Int: 12, At: pos(2, 4)},
		{Kind: lex.Mark, Text: ":=", At: pos(2, 7)},
	} {
		if r.Next() != want || r.Next() != want {
			t.Fatalf("Next() = %v; want %v", r.Next(), want)
		}
		switch want.Kind {
		case lex.Name:
			r.Name()
		case lex.Number:
			r.Number()
		default:
			r.Take(want.Text)
		}
	}
	for range 3 { // the end stays where it is, whoever asks for something else
		if want := (lex.Token{At: pos(2, 9)}); r.Next() != want {
			t.Errorf("Next() at the end = %v; want %v", r.Next(), want)
		}
		r.Take("x")
		r.Name()
		r.Number()
	}
}

func TestP5_1Is(t *testing.T) {
	for _, c := range []struct {
		s, is string
		want  bool
	}{
		{"let", "let", true}, {"hatch x", "hatch", true}, {":= 1", ":=", true}, {"( 1", "(", true}, {"{", "{", true},
		{"let", "le", false}, {":= 1", ":", false}, {":", ":=", false}, {"let", "in", false}, {"let", "", false},
		{"x", "x", false}, {"1", "1", false}, // a name, and a number
		{"", "", false}, {"", "let", false}, {"x let", "let", false},
	} {
		if got := reader(t, c.s).Is(c.is); got != c.want {
			t.Errorf("Is(%q) of %q = %v", c.is, c.s, got)
		}
	}
}

func TestP5_1Wrong(t *testing.T) {
	r := reader(t, "let\n x")
	for e := api.OK; e <= api.ErrMissing; e++ {
		wantDiag(t, "Wrong", r.Wrong(e), api.Diag{Code: e, At: pos(1, 1)})
	}
	r.Take("let")
	wantDiag(t, "Wrong", r.Wrong(api.ErrTwice), api.Diag{Code: api.ErrTwice, At: pos(2, 2)})
	if r.Next().Text != "x" {
		t.Errorf("Wrong skips: Next() = %v", r.Next())
	}
	r.Name()
	wantDiag(t, "Wrong", r.Wrong(api.ErrMissing), api.Diag{Code: api.ErrMissing, At: pos(2, 3)})
}

func TestP5_1Take(t *testing.T) {
	r := reader(t, "let ( := in x )")
	if err := r.Take(); err != nil || !r.Is("let") {
		t.Errorf("Take() = %v, then comes %v", err, r.Next())
	}
	if err := r.Take("let"); err != nil || !r.Is("(") {
		t.Errorf("Take = %v, then comes %v", err, r.Next())
	}
	if err := r.Take("(", ":=", "in"); err != nil || r.Next().Text != "x" {
		t.Errorf("Take = %v, then comes %v", err, r.Next())
	}
	for _, c := range []struct {
		s    string
		take []string
		at   api.Pos
	}{
		{"let ( in", []string{"let", "(", ")"}, pos(1, 7)}, // the last one is missing
		{"let ( in", []string{"let", ":=", "in"}, pos(1, 5)},
		{"let ( in", []string{"in", "let", "("}, pos(1, 1)},
		{"let", []string{"let", "let"}, pos(1, 4)},
		{"let\n", []string{"let", ""}, pos(2, 1)},
		{"", []string{"let"}, pos(1, 1)},
		{"", []string{""}, pos(1, 1)},
		{"x", []string{"x"}, pos(1, 1)},
		{"let 1", []string{"let", "1"}, pos(1, 5)},
	} {
		wantDiag(t, "Take of "+short(c.s), reader(t, c.s).Take(c.take...), api.Diag{Code: api.ErrSyntax, At: c.at})
	}
}

func TestP5_1NameAndNumber(t *testing.T) {
	r := reader(t, "abc 0012 x 7")
	for _, want := range []lex.Token{
		{Kind: lex.Name, Text: "abc", At: pos(1, 1)},
		{Kind: lex.Number, Text: "0012", Int: 12, At: pos(1, 5)},
		{Kind: lex.Name, Text: "x", At: pos(1, 10)},
		{Kind: lex.Number, Text: "7", Int: 7, At: pos(1, 12)},
	} {
		call := r.Name
		if want.Kind == lex.Number {
			call = r.Number
		}
		if got, err := call(); err != nil || got != want {
			t.Errorf("Name or Number = %v, %v; want %v", got, err, want)
		}
	}
	for _, c := range []struct {
		s            string
		name, number bool
	}{{"x", true, false}, {"1", false, true}, {"let", false, false}, {"(", false, false}, {"", false, false}, {"-1", false, false}, {"main", false, false}} {
		got, err := reader(t, "\n "+c.s).Name()
		wantOne(t, "Name of "+c.s, got, err, c.name)
		got, err = reader(t, "\n "+c.s).Number()
		wantOne(t, "Number of "+c.s, got, err, c.number)
	}
}

func wantOne(t *testing.T, what string, got lex.Token, err error, good bool) {
	t.Helper()
	if good {
		if err != nil || got.At != pos(2, 2) {
			t.Errorf("%s: %v, %v", what, got, err)
		}
		return
	}
	wantDiag(t, what, err, api.Diag{Code: api.ErrSyntax, At: pos(2, 2)})
	if got != (lex.Token{}) {
		t.Errorf("%s: %v beside an error", what, got)
	}
}

func TestP5_1NilReader(t *testing.T) {
	var r *expr.Reader
	want := api.Diag{Code: api.ErrArg}
	if r.Next() != (lex.Token{}) || r.Is("let") || r.Is("") {
		t.Error("a nil reader has tokens")
	}
	for e := api.OK; e <= api.ErrMissing; e++ {
		wantDiag(t, "Wrong", r.Wrong(e), want)
	}
	wantDiag(t, "Take()", r.Take(), want)
	wantDiag(t, "Take", r.Take("let", "in"), want)
	n, err := r.Name()
	wantDiag(t, "Name", err, want)
	k, err := r.Number()
	wantDiag(t, "Number", err, want)
	i, err := r.Expr()
	wantDiag(t, "Expr", err, want)
	if n != (lex.Token{}) || k != (lex.Token{}) || i != 0 {
		t.Error("a nil reader's results beside an error:", n, k, i)
	}
}

// A reader that New didn't make is not promised anything, but that nothing panics.
func TestP1NoTokens(t *testing.T) {
	for _, r := range []*expr.Reader{{}, {Tree: &tree.Tree{}}} {
		i, err := r.Expr()
		if r.Next() != (lex.Token{}) || r.Is("") || r.Take("x") == nil || err == nil || i != 0 {
			t.Error("a reader without tokens:", r.Next(), i, err)
		}
	}
	r := reader(t, "1")
	r.Tree = nil
	if i, err := r.Expr(); err == nil || i != 0 {
		t.Error("a reader without a tree:", i, err)
	}
}

// forms is every form of an item, of a unary, and of what is between them.
var forms = []struct {
	text, want string
	nodes      int
}{
	{"let x = a in b", "(let x @1 (var a @9) (var b @14))", 3},
	{"if a then b else c", "(if @1 (var a @4) (var b @11) (var c @18))", 4},
	{"try a with E -> b", "(try E @1 (var a @5) (var b @17))", 3},
	{"raise E", "(raise E @1)", 1},
	{"out c a", "(out c @1 (var a @7))", 2},
	{"g := a", "(set g @1 (var a @6))", 2},
	{"a; b", "(seq @2 (var a @1) (var b @4))", 3},
	{"a or b", "(or @3 (var a @1) (var b @6))", 3},
	{"a and b", "(and @3 (var a @1) (var b @7))", 3},
	{"a = b", "(= @3 (var a @1) (var b @5))", 3},
	{"a < b", "(< @3 (var a @1) (var b @5))", 3},
	{"a + b", "(+ @3 (var a @1) (var b @5))", 3},
	{"a - b", "(- @3 (var a @1) (var b @5))", 3},
	{"a * b", "(* @3 (var a @1) (var b @5))", 3},
	{"- a", "(neg @1 (var a @3))", 2},
	{"not a", "(not @1 (var a @5))", 2},
	{"fst a", "(fst @1 (var a @5))", 2},
	{"snd a", "(snd @1 (var a @5))", 2},
	{"! g", "(get g @1)", 1},
	{"true", "(true @1)", 1},
	{"false", "(false @1)", 1},
	{"hole k", "(hole k @1)", 1},
	{"release h (a)", "(release h @1 (var a @12))", 2},
	{"( )", "(unit @1)", 1},
	{"(a)", "(var a @2)", 1},
	{"(a, b)", "(pair @1 (var a @2) (var b @5))", 3},
	{"0042", "(int 42 @1)", 1},
	{"a", "(var a @1)", 1},
	{"f ( )", "(call f @1)", 1},
	{"f(a)", "(call f @1 (var a @3))", 2},
	{"f(a, b, c, d)", "(call f @1 (var a @3) (var b @6) (var c @9) (var d @12))", 5},
}

func TestP5_1Forms(t *testing.T) {
	for _, c := range forms {
		wantParsed(t, c.text, c.want, show)
		wantGood(t, c.text, c.nodes)
	}
	wantParsed(t, "999999999999999999", "(int 999999999999999999 @1)", show)
	wantParsed(t, "0", "(int @1)", show)
	wantParsed(t, "((a + b))", "(+ @5 (var a @3) (var b @7))", show)
}

func TestP5_1PartsOfForms(t *testing.T) {
	for _, c := range [][2]string{
		{"let x = a; b in c; d", "(let (seq a b) (seq c d))"},
		{"let x = let y = a in b in c", "(let (let a b) c)"},
		{"let x = x := a in raise E", "(let (set a) E)"},
		{"if a; b then c else d; e", "(seq (if (seq a b) c d) e)"},
		{"if if a then b else c then d else e", "(if (if a b c) d e)"},
		{"if a then x := b else out c d", "(if a (set b) (out d))"},
		{"if a then let x = b in c; d else e", "(if a (let b (seq c d)) e)"},
		{"if a then b else let x = c in d; e", "(if a b (let c (seq d e)))"},
		{"if a then if b then c else d else e", "(if a (if b c d) e)"},
		{"try a; b with E -> c; d", "(seq (try (seq a b) c) d)"},
		{"try a with E -> let x = b in c; d", "(try a (let b (seq c d)))"},
		{"try try a with E -> b with F -> c", "(try (try a b) c)"},
		{"raise E; a", "(seq E a)"},
		{"out c a or b; d", "(seq (out (or a b)) d)"},
		{"out c (a)", "(out a)"},
		{"out c (a, b)", "(out (pair a b))"},
		{"g := a or b; d", "(seq (set (or a b)) d)"},
		{"g := (h := a)", "(set (set a))"},
		{"f(a; b, let x = c in d; e)", "(call (seq a b) (let c (seq d e)))"},
		{"(a; b, g := c)", "(pair (seq a b) (set c))"},
		{"(g := a)", "(set a)"},
		{"release h (a; b)", "(release (seq a b))"},
		{"((a, b), (c, ()))", "(pair (pair a b) (pair c (unit)))"},
		{"f(g(), h(a))", "(call g (call a))"},
		{"f((a, b))", "(call (pair a b))"},
		{"x (a)", "(call a)"},
		{"!g + hole k", "(+ g k)"},
	} {
		wantParsed(t, c[0], c[1], shape)
	}
}

func TestP5_1Binding(t *testing.T) {
	for _, c := range [][2]string{
		{"a or b or c", "(or (or a b) c)"},
		{"a and b and c", "(and (and a b) c)"},
		{"a + b + c", "(+ (+ a b) c)"},
		{"a - b - c", "(- (- a b) c)"},
		{"a - b + c - d", "(- (+ (- a b) c) d)"},
		{"a * b * c", "(* (* a b) c)"},
		{"a or b and c or d", "(or (or a (and b c)) d)"},
		{"a and b = c and d", "(and (and a (= b c)) d)"},
		{"a < b + c", "(< a (+ b c))"},
		{"a + b < c", "(< (+ a b) c)"},
		{"a = b or c < d", "(or (= a b) (< c d))"},
		{"a + b * c - d", "(- (+ a (* b c)) d)"},
		{"a * b + c * d", "(+ (* a b) (* c d))"},
		{"a - - b", "(- a (neg b))"},
		{"- a - b", "(- (neg a) b)"},
		{"- a * - b", "(* (neg a) (neg b))"},
		{"- - - a", "(neg (neg (neg a)))"},
		{"not a = b", "(= (not a) b)"},
		{"not not a and b", "(and (not (not a)) b)"},
		{"fst snd - not a", "(fst (snd (neg (not a))))"},
		{"fst f(a) * b", "(* (fst (call a)) b)"},
		{"- 5", "(neg 5)"},
		{"a or (b or c)", "(or a (or b c))"},
		{"a * (b + c)", "(* a (+ b c))"},
		{"(a = b) = (c < d)", "(= (= a b) (< c d))"},
		{"a - (b - c)", "(- a (- b c))"},
		{"a; b or c; d", "(seq a (seq (or b c) d))"},
		{"(a; b); c", "(seq (seq a b) c)"},
		{"a; (b; c)", "(seq a (seq b c))"},
		{"1 + 2 * x", "(+ 1 (* 2 x))"},
	} {
		wantParsed(t, c[0], c[1], shape)
	}
}

func TestP5_1LinesAndComments(t *testing.T) {
	x, i, err := expr.Parse("\n a # ; b\n  + f(\n\tb)\n;\nc")
	if err != nil || shape(x, i) != "(seq (+ a (call b)) c)" {
		t.Fatal(shape(x, i), err)
	}
	var at []api.Pos
	for k := range x.Len() {
		n, _ := x.Get(k)
		at = append(at, n.At)
	}
	if want := []api.Pos{pos(2, 2), pos(4, 2), pos(3, 5), pos(3, 3), pos(6, 1), pos(5, 1)}; !slices.Equal(at, want) {
		t.Errorf("nodes at %v; want %v", at, want)
	}
}

func TestP5_1OrderOfNodes(t *testing.T) {
	for _, c := range [][2]string{
		{"a; b; c; d", "a@1 b@4 c@7 d@10 seq(2,3)@8 seq(1,4)@5 seq(0,5)@2"},
		{"a + b - c", "a@1 b@5 +(0,1)@3 c@9 -(2,3)@7"},
		{"f(a, b; c)", "a@3 b@6 c@9 seq(1,2)@7 f(0,3)@1"},
		{"if a then b else c", "a@4 b@11 c@18 if(0,1,2)@1"},
		{"(a; b); c", "a@2 b@5 seq(0,1)@3 c@9 seq(2,3)@7"},
		{"let x = a; b in c; d", "a@9 b@12 seq(0,1)@10 c@17 d@20 seq(3,4)@18 x(2,5)@1"},
	} {
		x, _, err := expr.Parse(c[0])
		if got := inOrder(x); err != nil || got != c[1] {
			t.Errorf("Parse(%q) has %s, %v; want %s", c[0], got, err, c[1])
		}
	}
}

// inOrder is a tree's nodes by their numbers, each with its name (or its Op), its Kids, and its column.
func inOrder(x *tree.Tree) string {
	var l []string
	for i := range x.Len() {
		n, _ := x.Get(i)
		s := n.Name
		if s == "" {
			s = n.Op
		}
		var kids []string
		for _, k := range n.Kids {
			kids = append(kids, strconv.Itoa(k))
		}
		if len(kids) > 0 {
			s += "(" + strings.Join(kids, ",") + ")"
		}
		l = append(l, s+"@"+strconv.Itoa(n.At.Col))
	}
	return strings.Join(l, " ")
}

// beginners is the tokens that may begin an item, each with what makes it one.
var beginners = []string{"let x = a in b", "if a then b else c", "try a with E -> b", "raise E", "out c a", "g := a",
	"- a", "not a", "fst a", "snd a", "!g", "true", "false", "hole k", "release h (a)", "()", "7", "a", "f()"}

func TestP5_1Semicolon(t *testing.T) {
	for _, s := range beginners {
		r := reader(t, "z; "+s)
		i, err := r.Expr()
		if n, _ := r.Get(i); err != nil || n.Op != "seq" || n.At != pos(1, 2) || r.Next().Kind != lex.End {
			t.Errorf("z; %s: %v, %v, then comes %v", s, n, err, r.Next())
		}
	}
	for _, s := range []string{"", "in", "then", "else", "with", "and", "or", "input", "global", "channel", "exception", "fun", "main", "conf", "integ", "order", "attacker", "hatch", "to",
		")", "{", "}", ",", ";", ":", "+", "*", "=", "<", ":=", "->"} {
		r := reader(t, "z; "+s)
		i, err := r.Expr()
		if err != nil || show(r.Tree, i) != "(var z @1)" || !r.Is(";") {
			t.Errorf("z; %s: %s, %v, then comes %v", s, show(r.Tree, i), err, r.Next())
		}
		wantError(t, "z; "+s, api.ErrSyntax, pos(1, 2))
		wantError(t, "(z; "+s, api.ErrSyntax, pos(1, 3))
		wantError(t, "a; z; "+s, api.ErrSyntax, pos(1, 5))
	}
	wantError(t, "let x = a; in b", api.ErrSyntax, pos(1, 10))
	wantError(t, "if a; then b else c", api.ErrSyntax, pos(1, 5))
	wantError(t, "if a then b; c else d", api.ErrSyntax, pos(1, 12))
	wantError(t, "try a; with E -> b", api.ErrSyntax, pos(1, 6))
	wantError(t, "f(a;, b)", api.ErrSyntax, pos(1, 4))
	wantError(t, "f(a, b;)", api.ErrSyntax, pos(1, 7))
	wantError(t, "a; - ", api.ErrSyntax, pos(1, 6)) // - may begin an item, and so the ; counts
	wantError(t, ";", api.ErrSyntax, pos(1, 1))
	wantError(t, "; a", api.ErrSyntax, pos(1, 1))
}

// Several expressions of one reader are in one tree.
func TestP5_1ExprEndsWhereItCan(t *testing.T) {
	r := reader(t, "a + b then -7 ; ) ( x := y ) z")
	for _, c := range []struct {
		number int
		want   string
		behind []string
	}{
		{2, "(+ @3 (var a @1) (var b @5))", []string{"then"}},
		{4, "(neg @12 (int 7 @13))", []string{";", ")"}},
		{6, "(set x @21 (var y @26))", nil},
	} {
		i, err := r.Expr()
		if err != nil || i != c.number || show(r.Tree, i) != c.want {
			t.Fatalf("Expr() = %d, %v: %s; want %d: %s", i, err, show(r.Tree, i), c.number, c.want)
		}
		if err := r.Take(c.behind...); err != nil {
			t.Fatalf("behind %s: %v", c.want, err)
		}
	}
	if n, err := r.Name(); err != nil || n.Text != "z" || r.Len() != 7 {
		t.Errorf("at last comes %v, %v, with %d nodes", n, err, r.Len())
	}
	i, err := r.Expr()
	wantDiag(t, "Expr at the end", err, api.Diag{Code: api.ErrSyntax, At: pos(1, 31)})
	if i != 0 {
		t.Errorf("Expr() = %d beside an error", i)
	}
}

func TestP5_1NoTokens(t *testing.T) {
	wantError(t, "", api.ErrSyntax, pos(1, 1))
	wantError(t, " \n\t# a", api.ErrSyntax, pos(2, 5))
}

func TestP5_1Syntax(t *testing.T) {
	for _, c := range []struct {
		s   string
		col int
	}{
		{"let", 4}, {"let 1", 5}, {"let in = 1", 5}, {"let x", 6}, {"let x := a", 7}, {"let x =", 8}, {"let x = in", 9}, {"let x = a", 10}, {"let x = a then", 11}, {"let x = a in", 13}, {"let x = a in )", 14},
		{"if", 3}, {"if then", 4}, {"if a", 5}, {"if a else", 6}, {"if a then", 10}, {"if a then b", 12}, {"if a then b then", 13}, {"if a then b else", 17}, {"if a then else b", 11},
		{"try", 4}, {"try with", 5}, {"try a", 6}, {"try a with", 11}, {"try a with 1", 12}, {"try a with E", 13}, {"try a with E - b", 14}, {"try a with E := b", 14}, {"try a with E ->", 16},
		{"raise", 6}, {"raise 1", 7}, {"raise (E)", 7}, {"raise E (a)", 9}, {"raise E or a", 9},
		{"out", 4}, {"out 1", 5}, {"out c", 6}, {"out c let x = a in b", 7}, {"out c raise E", 7}, {"out c g := a", 9},
		{"g :=", 5}, {"g := h := a", 8}, {"g := if a then b else c", 6}, {"1 := a", 3}, {"g : a", 3}, {"(g) := a", 5},
		{"a or", 5}, {"a or or b", 6}, {"a and", 6}, {"a and if b then c else d", 7}, {"a =", 4}, {"a = = b", 5}, {"a = b = c", 7}, {"a < b < c", 7}, {"a = b < c", 7}, {"a < not raise E", 9},
		{"a +", 4}, {"a + + b", 5}, {"a + b := c", 7}, {"a * * b", 5}, {"a *", 4}, {"a - ", 5}, {"+ a", 1}, {"* a", 1}, {"or a", 1}, {"and", 1}, {"= a", 1}, {"< a", 1},
		{"-", 2}, {"- )", 3}, {"not", 4}, {"not let", 5}, {"fst", 4}, {"fst ,", 5}, {"snd", 4}, {"snd ;", 5},
		{"!", 2}, {"! 1", 3}, {"!(g)", 2}, {"! !", 3}, {"!g (a)", 4}, {"hole", 5}, {"hole 1", 6}, {"hole hole", 6}, {"hole k (a)", 8},
		{"release", 8}, {"release (a)", 9}, {"release h", 10}, {"release h a", 11}, {"release h ()", 12}, {"release h (a, b)", 13}, {"release h (a", 13},
		{"(", 2}, {"(a", 3}, {"(a,", 4}, {"(a,)", 4}, {"(, a)", 2}, {"(a, b", 6}, {"(a, b,", 6}, {"(a, b, c)", 6}, {"(a b)", 4}, {")", 1}, {"())", 3},
		{"f(", 3}, {"f(a", 4}, {"f(a,", 5}, {"f(a,)", 5}, {"f(,)", 3}, {"f(a b)", 5}, {"f(a))", 5}, {"f()()", 4}, {"f(a)(b)", 5},
		{"in", 1}, {"then", 1}, {"main = 1", 1}, {"to", 1}, {"a to b", 3}, {"{", 1}, {"a }", 3}, {"a -> b", 3}, {"a : b", 3},
		{"1 2", 3}, {"a b", 3}, {"a 1", 3}, {"1 (a)", 3}, {"true false", 6}, {"true (a)", 6}, {"a not b", 3}, {"a !g", 3}, {"a; b c", 6}, {"(a) (b)", 5}, {"raise E F", 9},
	} {
		wantError(t, c.s, api.ErrSyntax, pos(1, c.col))
		wantError(t, "# (\n"+c.s, api.ErrSyntax, pos(2, c.col))
	}
}

// What stands behind an expression is Parse's matter, and not Expr's.
func TestP5_1ParseBehind(t *testing.T) {
	for _, c := range [][2]string{{"a b", "b"}, {"a )", ")"}, {"a; ;", ";"}, {"a = b = c", "="}, {"raise E (a)", "("}, {"a, b", ","}, {"a 1 2 3", "1"}, {"f(a) let x", "let"}, {"a in b", "in"}} {
		r := reader(t, c[0])
		if _, err := r.Expr(); err != nil || r.Next().Text != c[1] {
			t.Errorf("Expr of %q: %v, then comes %v; want %s", c[0], err, r.Next(), c[1])
		}
		wantError(t, c[0], api.ErrSyntax, r.Next().At)
	}
}
