package program_test

import (
	"errors"
	"math/rand"
	"slices"
	"strconv"
	"strings"
	"testing"

	"whisper/api"
	"whisper/expr"
	"whisper/lex"
	"whisper/program"
	"whisper/tree"
)

// The chapter's words, as a list of all that a declaration may be, against which Parse is held. It is for texts of one line, whose bodies
// are left to layer 5.

// patterns are the tokens of each declaration: N is a name, I a number, E an expression. A fun has at most 5 params here.
var patterns = []string{
	"input N : { N N } ;",
	"global N : { N N } = I ;",
	"global N : { N N } = - I ;",
	"channel N : { N N } ;",
	"exception N ;",
	"fun N ( ) = E ;",
	"fun N ( N ) = E ;",
	"fun N ( N , N ) = E ;",
	"fun N ( N , N , N ) = E ;",
	"fun N ( N , N , N , N ) = E ;",
	"fun N ( N , N , N , N , N ) = E ;",
	"main = E ;",
}

// words is a text by the patterns: what is told of its declarations, by their first words, or what is wrong with it.
type words struct {
	text   string
	tokens []lex.Token
	next   int
	tree   *tree.Tree
	told   map[string][]string
}

func (w *words) wrong(code api.Errno, name string) error {
	return api.Diag{Code: code, At: w.tokens[w.next].At, Name: name}
}

func (w *words) all() error {
	for n := 0; w.tokens[w.next].Kind != lex.End; n++ {
		if n == 100 {
			return w.wrong(6, "")
		}
		if err := w.decl(); err != nil {
			return err
		}
	}
	if len(w.told["main"]) == 0 {
		return w.wrong(16, "main")
	}
	return nil
}

// decl goes on as long as there is a pattern that begins with the tokens so far.
func (w *words) decl() error {
	first := w.tokens[w.next]
	if first.Text == "main" && len(w.told["main"]) > 0 {
		return w.wrong(8, "main")
	}
	var left [][]string
	for _, p := range patterns {
		left = append(left, strings.Fields(p))
	}
	var parts []string
	if first.Text == "main" {
		parts = append(parts, "main@"+strconv.Itoa(first.At.Col))
	}
	for k := 0; ; k++ {
		if slices.ContainsFunc(left, func(p []string) bool { return p[k] == "E" }) {
			part, err := w.expr()
			if err != nil {
				return err
			}
			parts = append(parts, part)
			continue
		}
		t := w.tokens[w.next]
		left = slices.DeleteFunc(left, func(p []string) bool { return !fits(t, p[k]) })
		if len(left) == 0 {
			return w.wrong(5, "")
		}
		parts = append(parts, part(t)...)
		w.next++
		if t.Text == ";" {
			one := strings.ReplaceAll(strings.Join(parts, " "), " - ", " -")
			w.told[first.Text] = append(w.told[first.Text], strings.ReplaceAll(one, " -0", " 0"))
			return nil
		}
	}
}

func fits(t lex.Token, what string) bool {
	switch what {
	case "N":
		return t.Kind == lex.Name
	case "I":
		return t.Kind == lex.Number
	}
	return (t.Kind == lex.Word || t.Kind == lex.Mark) && t.Text == what
}

// part is what is told of a token: a name with its column, a number, or a sign.
func part(t lex.Token) []string {
	switch {
	case t.Kind == lex.Name:
		return []string{t.Text + "@" + strconv.Itoa(t.At.Col)}
	case t.Kind == lex.Number:
		return []string{strconv.FormatInt(t.Int, 10)}
	case t.Text == "-":
		return []string{"-"}
	}
	return nil
}

// expr is layer 5's reading of what is left, at the place where it stands.
func (w *words) expr() (string, error) {
	at := w.tokens[w.next].At.Col - 1
	r, err := expr.New(strings.Repeat(" ", at) + w.text[at:])
	if err != nil {
		return "", err
	}
	r.Tree = w.tree
	i, err := r.Expr()
	if err != nil {
		return "", err
	}
	for w.tokens[w.next].At != r.Next().At {
		w.next++
	}
	return "=" + strconv.Itoa(i), nil
}

// tell is a program's declarations, as words tells them.
func tell(p *program.Program) map[string][]string {
	l := map[string][]string{}
	one := func(n program.Name) string { return n.Text + "@" + strconv.Itoa(n.At.Col) }
	for word, decls := range map[string][]program.Decl{"input": p.Inputs, "global": p.Globals, "channel": p.Channels, "exception": p.Exns} {
		for _, d := range decls {
			s := one(d.Name)
			if word != "exception" {
				s += " " + one(d.Conf) + " " + one(d.Integ)
			} else if d.Conf != (program.Name{}) || d.Integ != (program.Name{}) {
				s += " with points"
			}
			if word == "global" || d.Int != 0 {
				s += " " + strconv.FormatInt(d.Int, 10)
			}
			l[word] = append(l[word], s)
		}
	}
	for i, f := range append(slices.Clone(p.Funs), p.Main) {
		word, s := "fun", one(f.Name)
		if i == len(p.Funs) {
			word = "main"
		}
		for _, n := range f.Params {
			s += " " + one(n)
		}
		l[word] = append(l[word], s+" ="+strconv.Itoa(f.Body))
	}
	return l
}

// holdAgainstWords reports the code that a text has by the words, 0 if it is a program.
func holdAgainstWords(t *testing.T, s string) api.Errno {
	t.Helper()
	tokens, err := lex.Tokens(s)
	if err != nil {
		t.Fatalf("%q: %v", s, err)
	}
	w := &words{text: s, tokens: tokens, tree: &tree.Tree{}, told: map[string][]string{}}
	want := w.all()
	var d api.Diag
	if errors.As(want, &d) {
		wantDiag(t, s, d)
		return d.Code
	}
	p, err := program.Parse(s)
	if err != nil {
		t.Errorf("Parse(%q): %v", s, err)
		return 0
	}
	got := tell(p)
	for _, word := range []string{"input", "global", "channel", "exception", "fun", "main"} {
		if !slices.Equal(got[word], w.told[word]) {
			t.Errorf("Parse(%q), %s: %q; want %q", s, word, got[word], w.told[word])
		}
	}
	if nodes(p.Tree) != nodes(w.tree) {
		t.Errorf("Parse(%q), the tree:\n%swant:\n%s", s, nodes(p.Tree), nodes(w.tree))
	}
	return 0
}

// pieces are one of each mark and word, names, and numbers.
var pieces = strings.Fields(`( ) { } , ; : ! + - * = < := -> x low 0 12
	let in if then else try with out raise true false not and or fst snd release hole
	input global channel exception fun main conf integ order attacker hatch to`)

// examples are a declaration of each pattern, except those with the most params, and bodies of more than a token.
func examples() [][]string {
	var l [][]string
	for _, p := range patterns {
		s := strings.Fields(p)
		if strings.Count(p, ",") > 2 {
			continue
		}
		for i := range s {
			switch s[i] {
			case "N":
				s[i] = "n" + strconv.Itoa(i)
			case "I", "E":
				s[i] = strconv.Itoa(i)
			}
		}
		l = append(l, s)
	}
	return append(l, strings.Fields("fun f ( ) = x ; y ;"), strings.Fields("fun f ( a ) = x := ( 1 , 2 ) ;"), strings.Fields("main = f ( ) ;"))
}

// At each place of each declaration: every token there instead, or besides, and the text's end there, alone and among others.
func TestP6_1EveryPlace(t *testing.T) {
	codes := map[api.Errno]int{}
	for _, d := range examples() {
		for _, before := range []string{"", "main = 1 ; ", "exception E ; "} {
			for _, after := range []string{"", " main = 2 ;", " input i : { low low } ;"} {
				hold := func(tokens []string) {
					codes[holdAgainstWords(t, before+strings.Join(tokens, " ")+after)]++
				}
				hold(d)
				for i := range len(d) + 1 {
					codes[holdAgainstWords(t, before+strings.Join(d[:i], " "))]++
					if i < len(d) {
						hold(slices.Delete(slices.Clone(d), i, i+1))
					}
					for _, s := range pieces {
						hold(slices.Insert(slices.Clone(d), i, s))
						if i < len(d) {
							other := slices.Clone(d)
							other[i] = s
							hold(other)
						}
					}
				}
			}
		}
	}
	for _, c := range []api.Errno{api.OK, api.ErrSyntax, api.ErrTwice, api.ErrMissing} {
		if codes[c] < 100 {
			t.Errorf("only %d texts with the error %d: %v", codes[c], c, codes)
		}
	}
}

// All texts of up to 3 tokens.
func TestP6_1ShortTexts(t *testing.T) {
	holdAgainstWords(t, "")
	for _, a := range pieces {
		holdAgainstWords(t, a)
		for _, b := range pieces {
			holdAgainstWords(t, a+" "+b)
			for _, c := range pieces {
				holdAgainstWords(t, a+" "+b+" "+c)
			}
		}
	}
}

// randomText is a few declarations, or more than a program may have, with a few tokens changed.
func randomText(rnd *rand.Rand) string {
	var l []string
	kinds := examples()
	n := rnd.Intn(8)
	if rnd.Intn(20) == 0 {
		n = 98 + rnd.Intn(5)
	}
	main := rnd.Intn(n + 1)
	for i := range n {
		d := kinds[rnd.Intn(len(kinds))]
		if i == main {
			d = kinds[len(kinds)-1]
		} else if d[0] == "main" && rnd.Intn(max(8, n)) > 0 {
			d = kinds[4]
		}
		l = append(l, d...)
	}
	for range rnd.Intn(3) {
		i := rnd.Intn(len(l) + 1)
		switch s := pieces[rnd.Intn(len(pieces))]; {
		case i == len(l) || rnd.Intn(3) == 0:
			l = slices.Insert(l, i, s)
		case rnd.Intn(2) == 0:
			l[i] = s
		default:
			l = slices.Delete(l, i, i+1)
		}
	}
	return strings.Join(l, []string{" ", "  "}[rnd.Intn(2)])
}

func TestP6_1RandomTexts(t *testing.T) {
	rnd := rand.New(rand.NewSource(6))
	codes := map[api.Errno]int{}
	for range 20000 {
		codes[holdAgainstWords(t, randomText(rnd))]++
	}
	for _, c := range []api.Errno{api.OK, api.ErrSyntax, api.ErrLimit, api.ErrTwice, api.ErrMissing} {
		if codes[c] < 100 {
			t.Errorf("only %d texts with the error %d: %v", codes[c], c, codes)
		}
	}
}

// P2: another call is no part of an answer, and no two answers share anything.
func TestP2Parse(t *testing.T) {
	const s = "input i : { a b } ; global g : { a b } = 1 ; exception e ; fun f ( x , y ) = x ; main = f ( 1 , 2 ) ;"
	a := parse(t, s)
	program.Parse("main = 1; main = 2;")
	b := parse(t, s)
	before := nodes(b.Tree)
	if a == b || a.Tree == b.Tree || nodes(a.Tree) != before {
		t.Error("two answers to one call:", a, b)
	}
	a.Add(api.Node{Op: "unit"})
	a.Inputs[0].Text, a.Globals[0].Int, a.Exns[0].Text = "other", 2, "other"
	a.Funs[0].Params[0].Text, a.Funs[0].Text, a.Main.Body = "other", "other", 0
	if nodes(b.Tree) != before {
		t.Error("two programs share their nodes")
	}
	holdAgainstWords(t, s)
	if b.Inputs[0].Text != "i" || b.Globals[0].Int != 1 || b.Exns[0].Text != "e" || b.Funs[0].Params[0].Text != "x" || b.Funs[0].Text != "f" || b.Main.Body == 0 {
		t.Error("two programs share their declarations:", b)
	}
}

// An answer's lists can be added to, one by one.
func TestP6_1ListsAreApart(t *testing.T) {
	p := parse(t, "fun f(a) = 1; fun g(b, c) = 2; input i : {a b}; channel c : {a b}; main = 3;")
	_ = append(p.Funs[0].Params, program.Name{Text: "other"})
	_ = append(p.Inputs, program.Decl{Int: 7})
	if p.Funs[1].Params[0].Text != "b" || p.Channels[0].Text != "c" || p.Channels[0].Int != 0 {
		t.Error("lists that share memory:", p)
	}
}

func FuzzParse(f *testing.F) {
	for _, d := range examples() {
		f.Add(strings.Join(d, " "))
		f.Add(strings.Join(d, " ") + "main = 1;")
	}
	f.Add("")
	f.Add("main = 1; main = 2;")
	f.Fuzz(func(t *testing.T, s string) {
		p, err := program.Parse(s)
		var d api.Diag
		if (err == nil) == (p == nil) || err != nil && !errors.As(err, &d) {
			t.Errorf("Parse(%q) = %v, %v", s, p, err)
		}
		if _, e := lex.Tokens(s); e == nil && oneLine(s) && strings.Count(s, ",") < 4 {
			holdAgainstWords(t, s)
		}
	})
}

// oneLine is for texts in which a column is a byte's place.
func oneLine(s string) bool {
	return !strings.ContainsFunc(s, func(c rune) bool { return c < ' ' || c > '~' })
}
