package expr_test

import (
	"errors"
	"math/rand"
	"slices"
	"strconv"
	"strings"
	"testing"

	"whisper/api"
	"whisper/expr"
	"whisper/lex"
	"whisper/tree"
)

// The chapter's rules, put as alternatives: a part in [ ] and { } has a rule of its own, which may be empty. Parts in small letters are rules, unless they stand in quotes.
var rules = map[string][]string{
	"all":   {"item items"},
	"items": {"", "';' item items"},
	"item": {"'let' name '=' all 'in' all", "'if' all 'then' item 'else' item", "'try' all 'with' name '->' item",
		"'raise' name", "'out' name or", "name ':=' or", "or"},
	"or":    {"and ors"},
	"ors":   {"", "'or' and ors"},
	"and":   {"test ands"},
	"ands":  {"", "'and' test ands"},
	"test":  {"sum tests"},
	"tests": {"", "'=' sum", "'<' sum"},
	"sum":   {"times sums"},
	"sums":  {"", "'+' times sums", "'-' times sums"},
	"times": {"unary muls"},
	"muls":  {"", "'*' unary muls"},
	"unary": {"'-' unary", "'not' unary", "'fst' unary", "'snd' unary", "'!' name", "'true'", "'false'",
		"'hole' name", "'release' name '(' all ')'", "'(' ')'", "'(' all second ')'",
		"number", "name call"},
	"second": {"", "',' all"},
	"call":   {"", "'(' ')'", "'(' all alls ')'"},
	"alls":   {"", "',' all alls"},
}

// A stack is what must still come, in order.
type stack = string

// known is what after found.
var known = map[string][]stack{}

// after is the stacks that may be left when a token has come, by whichever alternatives.
func after(stacks []stack, token string) []stack {
	key := token + "|" + strings.Join(stacks, "|")
	found, ok := known[key]
	if !ok {
		found = search(stacks, token)
		known[key] = found
	}
	return found
}

func search(stacks []stack, token string) []stack {
	var found []stack
	todo := slices.Clone(stacks)
	for len(todo) > 0 {
		first, rest, _ := strings.Cut(todo[0], " ")
		todo = todo[1:]
		if first == token && !slices.Contains(found, rest) {
			found = append(found, rest)
		}
		for _, l := range rules[first] {
			todo = append(todo, strings.TrimSpace(l+" "+rest))
		}
	}
	return found
}

// mayEnd tells whether nothing more need come.
func mayEnd(stacks []stack) bool {
	for _, s := range stacks {
		need := false
		for _, part := range strings.Fields(s) {
			need = need || rules[part] == nil || rules[part][0] != ""
		}
		if !need {
			return true
		}
	}
	return false
}

// vocabulary is every token that an expression may have, and some that it may not; each with its place in the rules.
var vocabulary = []struct{ text, part string }{
	{"let", "'let'"}, {"in", "'in'"}, {"if", "'if'"}, {"then", "'then'"}, {"else", "'else'"}, {"try", "'try'"}, {"with", "'with'"}, {"->", "'->'"},
	{"raise", "'raise'"}, {"out", "'out'"}, {":=", "':='"}, {";", "';'"}, {"or", "'or'"}, {"and", "'and'"}, {"=", "'='"}, {"<", "'<'"}, {"+", "'+'"}, {"-", "'-'"}, {"*", "'*'"},
	{"not", "'not'"}, {"fst", "'fst'"}, {"snd", "'snd'"}, {"!", "'!'"}, {"true", "'true'"}, {"false", "'false'"}, {"hole", "'hole'"}, {"release", "'release'"},
	{"(", "'('"}, {")", "')'"}, {",", "','"}, {"7", "number"}, {"x", "name"}, {":", "none"}, {"main", "none"}, {"}", "none"},
}

func partOf(t lex.Token) string {
	switch t.Kind {
	case lex.Name:
		return "name"
	case lex.Number:
		return "number"
	case lex.End:
		return "none"
	}
	return "'" + t.Text + "'"
}

// judge says by the rules which token ends the expression that some tokens begin with, and whether it may: false, if there it can't be.
func judge(tokens []lex.Token) (end int, ok bool) {
	steps := [][]stack{{"all"}}
	for {
		n := len(steps) - 1
		next := after(steps[n], partOf(tokens[n]))
		if len(next) > 0 {
			steps = append(steps, next)
			continue
		}
		if n > 0 && tokens[n-1].Text == ";" { // it is followed by what begins no item, and so continues nothing
			n--
		}
		return n, mayEnd(steps[n])
	}
}

// holdAgainstRules is for texts that are neither too deep, nor have too many nodes.
func holdAgainstRules(t *testing.T, s string) {
	t.Helper()
	tokens, err := lex.Tokens(s)
	if err != nil {
		t.Fatal(short(s), err)
	}
	end, ok := judge(tokens)
	r := reader(t, s)
	i, err := r.Expr()
	at := api.Diag{Code: api.ErrSyntax, At: tokens[end].At}
	if !ok {
		wantDiag(t, "Expr of "+short(s), err, at)
		if i != 0 {
			t.Errorf("Expr of %s = %d beside an error", short(s), i)
		}
	} else if err != nil || r.Next() != tokens[end] || i != r.Len()-1 {
		t.Errorf("Expr of %s = %d of %d, %v, then comes %v; want %v", short(s), i, r.Len(), err, r.Next(), tokens[end])
	}
	x, k, err := expr.Parse(s)
	if ok && tokens[end].Kind == lex.End {
		if err != nil || k != i || !tree.Same(x, k, r.Tree, i) {
			t.Errorf("Parse(%s) = %s, %v; want %s", short(s), show(x, k), err, show(r.Tree, i))
		}
		wantWhole(t, s, x, k)
		return
	}
	wantDiag(t, "Parse("+short(s)+")", err, at)
	if x != nil || k != 0 {
		t.Errorf("Parse(%s) = %v, %d beside an error", short(s), x, k)
	}
}

// wantWhole holds P5.2: all nodes are the expression's, each after its Kids, these in order; positions increase with the text.
func wantWhole(t *testing.T, s string, x *tree.Tree, i int) {
	t.Helper()
	next, last := 0, api.Pos{}
	var visit func(int)
	pass := func(n api.Node) {
		if n.At.Line < last.Line || n.At.Line == last.Line && n.At.Col <= last.Col {
			t.Errorf("Parse(%s): %s at %v, behind %v", short(s), n.Op, n.At, last)
		}
		last = n.At
	}
	visit = func(i int) {
		n, _ := x.Get(i)
		kids := n.Kids
		if strings.Contains(" seq or and = < + - * ", " "+n.Op+" ") {
			visit(kids[0])
			kids = kids[1:]
		}
		pass(n)
		for _, k := range kids {
			visit(k)
		}
		if i != next {
			t.Errorf("Parse(%s): node %d comes as number %d", short(s), i, next)
		}
		next++
	}
	visit(i)
	if next != x.Len() {
		t.Errorf("Parse(%s): %d of %d nodes are the expression's", short(s), next, x.Len())
	}
}

// Every text of up to 4 tokens whose tokens, but for the last one, may be there.
func TestP5_1AllShortTexts(t *testing.T) {
	var extend func(s string, stacks []stack, left int)
	extend = func(s string, stacks []stack, left int) {
		for _, v := range vocabulary {
			holdAgainstRules(t, s+v.text)
			if next := after(stacks, v.part); left > 1 && len(next) > 0 {
				extend(s+v.text+" ", next, left-1)
			}
		}
	}
	extend("", []stack{"all"}, 4)
}

// Texts of any tokens, with others as likely to be right as wrong.
func TestP5_1RandomTexts(t *testing.T) {
	rnd := rand.New(rand.NewSource(1))
	for range 4000 {
		var l []string
		stacks := []stack{"all"}
		for range rnd.Intn(25) {
			v := vocabulary[rnd.Intn(len(vocabulary))]
			for range 30 { // something that may be there, if there is a chance of it
				if len(after(stacks, v.part)) > 0 || rnd.Intn(40) == 0 {
					break
				}
				v = vocabulary[rnd.Intn(len(vocabulary))]
			}
			l, stacks = append(l, v.text), after(stacks, v.part)
		}
		holdAgainstRules(t, strings.Join(l, " "))
	}
}

// A writer makes an expression by the rules, its text with blanks of all sorts, and the nodes that it must have.
type writer struct {
	rnd   *rand.Rand
	text  strings.Builder
	at    api.Pos
	wordy bool // the last token would run into a name
	nodes []api.Node
}

func (w *writer) put(s string) {
	w.text.WriteString(s)
	for _, c := range s {
		w.at.Col++
		if c == '\n' {
			w.at = pos(w.at.Line+1, 1)
		}
	}
}

// token writes one, and returns where it is.
func (w *writer) token(s string) api.Pos {
	wordy := s[0] >= '0' && s[0] <= '9' || s[0] >= 'A' && s[0] != '{' && s[0] != '}'
	blanks := []string{" ", " ", " ", "\t", "\n", " \r\n  ", "# in; é ( $\n", "\n\n", "", "", "", ""}
	if w.wordy && wordy {
		blanks = blanks[:8]
	}
	w.put(blanks[w.rnd.Intn(len(blanks))])
	at := w.at
	w.put(s)
	w.wordy = wordy
	return at
}

func (w *writer) node(op string, at api.Pos, name string, kids ...int) int {
	w.nodes = append(w.nodes, api.Node{Op: op, At: at, Name: name, Kids: kids})
	return len(w.nodes) - 1
}

func (w *writer) name() string {
	l := []string{"x", "y2", "E", "_a", "lets", "Let", "truer"}
	s := l[w.rnd.Intn(len(l))]
	w.token(s)
	return s
}

// all writes a sequence; size bounds what is within it.
func (w *writer) all(size int) int {
	if size < 1 || w.rnd.Intn(3) > 0 {
		return w.item(size, true)
	}
	first := w.item(size/2, false)
	at := w.token(";")
	rest := w.all(size / 2)
	return w.node("seq", at, "", first, rest)
}

// item writes one that may end in a let only if no ; comes behind it, because the let would go on there.
func (w *writer) item(size int, mayLet bool) int {
	kind := w.rnd.Intn(9)
	if size < 1 {
		kind = 9
	}
	switch {
	case kind == 0 && mayLet:
		at := w.token("let")
		name := w.name()
		w.token("=")
		first := w.all(size / 2)
		w.token("in")
		return w.node("let", at, name, first, w.all(size/2))
	case kind == 1:
		at := w.token("if")
		a := w.all(size / 3)
		w.token("then")
		b := w.item(size/3, true)
		w.token("else")
		return w.node("if", at, "", a, b, w.item(size/3, mayLet))
	case kind == 2:
		at := w.token("try")
		first := w.all(size / 2)
		w.token("with")
		name := w.name()
		w.token("->")
		return w.node("try", at, name, first, w.item(size/2, mayLet))
	case kind == 3:
		at := w.token("raise")
		return w.node("raise", at, w.name())
	case kind == 4:
		at := w.token("out")
		name := w.name()
		return w.node("out", at, name, w.between(0, size-1))
	case kind == 5:
		s := "g" + strconv.Itoa(w.rnd.Intn(3))
		at := w.token(s)
		w.token(":=")
		return w.node("set", at, s, w.between(0, size-1))
	}
	return w.between(0, size)
}

// between writes what is at a level or binds more tightly.
func (w *writer) between(level, size int) int {
	levels := [][]string{{"or"}, {"and"}, {"=", "<"}, {"+", "-"}, {"*"}}
	if level == len(levels) {
		return w.unary(size)
	}
	marks := levels[level]
	n := 0
	if size > 0 && w.rnd.Intn(3) == 0 {
		n = 1 + w.rnd.Intn(3)
	}
	if level == 2 {
		n = min(n, 1)
	}
	left := w.between(level+1, size/(n+1))
	for range n {
		s := marks[w.rnd.Intn(len(marks))]
		at := w.token(s)
		left = w.node(s, at, "", left, w.between(level+1, size/(n+1)))
	}
	return left
}

func (w *writer) unary(size int) int {
	kind := w.rnd.Intn(12)
	if size < 1 {
		kind = w.rnd.Intn(6)
	}
	prefixes := [][2]string{{"-", "neg"}, {"not", "not"}, {"fst", "fst"}, {"snd", "snd"}}
	switch kind {
	case 0:
		n := w.rnd.Int63n(1000)
		at := w.token(strconv.FormatInt(n, 10))
		w.nodes = append(w.nodes, api.Node{Op: "int", At: at, Int: n})
		return len(w.nodes) - 1
	case 1:
		at := w.token("!")
		return w.node("get", at, w.name())
	case 2:
		s := []string{"true", "false"}[w.rnd.Intn(2)]
		at := w.token(s)
		return w.node(s, at, "")
	case 3:
		at := w.token("hole")
		return w.node("hole", at, w.name())
	case 4:
		at := w.token("(")
		w.token(")")
		return w.node("unit", at, "")
	case 6, 7:
		p := prefixes[w.rnd.Intn(4)]
		at := w.token(p[0])
		return w.node(p[1], at, "", w.unary(size-1))
	case 8, 9, 10, 11:
		return w.closed(kind, size-1)
	}
	s := "v" + strconv.Itoa(w.rnd.Intn(3))
	return w.node("var", w.token(s), s)
}

// closed writes what ends with a bracket.
func (w *writer) closed(kind, size int) int {
	switch kind {
	case 8:
		at := w.token("release")
		name := w.name()
		w.token("(")
		part := w.all(size)
		w.token(")")
		return w.node("release", at, name, part)
	case 9:
		w.token("(")
		part := w.all(size)
		w.token(")")
		return part
	case 10:
		at := w.token("(")
		first := w.all(size / 2)
		w.token(",")
		second := w.all(size / 2)
		w.token(")")
		return w.node("pair", at, "", first, second)
	}
	at := w.token("f")
	w.token("(")
	var l []int
	for n := w.rnd.Intn(4); len(l) < n; {
		if len(l) > 0 {
			w.token(",")
		}
		l = append(l, w.all(size/n))
	}
	w.token(")")
	return w.node("call", at, "f", l...)
}

func TestP5_1WrittenExpressions(t *testing.T) {
	ops := map[string]int{}
	for seed := range 5000 {
		w := &writer{rnd: rand.New(rand.NewSource(int64(seed))), at: pos(1, 1)}
		w.all(1 + seed%25)
		s := w.text.String()
		x, i, err := expr.Parse(s)
		if err != nil || i != len(w.nodes)-1 || x.Len() != len(w.nodes) {
			t.Fatalf("Parse(%q) = %d of %d, %v; want %d nodes", s, i, x.Len(), err, len(w.nodes))
		}
		for k, want := range w.nodes {
			n, _ := x.Get(k)
			if n.Op != want.Op || n.At != want.At || n.Name != want.Name || n.Int != want.Int || !slices.Equal(n.Kids, want.Kids) {
				t.Fatalf("Parse(%q): node %d is %v; want %v", s, k, n, want)
			}
			ops[n.Op]++
		}
		wantWhole(t, s, x, i)
		if seed%10 == 0 {
			holdAgainstRules(t, s)
		}
	}
	if len(ops) != 28 {
		t.Errorf("%d ops were written: %v", len(ops), ops)
	}
}

// P2: another call is no part of an answer.
func TestP2Parse(t *testing.T) {
	const s = "let x = f(1, y); z in out c x + 1"
	a, i, _ := expr.Parse(s)
	expr.Parse("1 +")
	b, k, _ := expr.Parse(s)
	if i != k || show(a, i) != show(b, k) || a == b {
		t.Error(show(a, i), show(b, k))
	}
	before := b.Len()
	a.Add(api.Node{Op: "unit"})
	if b.Len() != before {
		t.Error("two trees share their nodes")
	}
}

func FuzzParse(f *testing.F) {
	for _, c := range forms {
		f.Add(c.text)
	}
	f.Add("a; b; c")
	f.Add("if a then b; else c")
	f.Add("((((x")
	f.Fuzz(func(t *testing.T, s string) {
		x, i, err := expr.Parse(s)
		var d api.Diag
		if err == nil {
			wantWhole(t, s, x, i)
		} else if !errors.As(err, &d) || x != nil || i != 0 {
			t.Errorf("Parse(%q) = %v, %d, %v", s, x, i, err)
		}
		if len(s) < 60 && (err == nil || errors.Is(err, api.ErrSyntax)) {
			holdAgainstRules(t, s)
		}
	})
}
