package policy_test

import (
	"errors"
	"math/rand"
	"slices"
	"strings"
	"testing"

	"whisper/api"
	"whisper/expr"
	"whisper/lex"
	"whisper/policy"
	"whisper/program"
	"whisper/tree"
)

// The chapter's words, as a table of which token may come where, against which Parse is held. It is for texts of ASCII, whose expressions
// are left to layer 5.

// places are where a reading may be, what may come there (N is a name, E an expression), and where it is then. At the first place a
// policy may end.
var places = [][3]string{
	{"item", "conf", "conf"}, {"conf", "N", "conf2"}, {"conf2", ",", "conf"}, {"conf2", ";", "item"},
	{"item", "integ", "integ"}, {"integ", "N", "integ2"}, {"integ2", ",", "integ"}, {"integ2", ";", "item"},
	{"item", "order", "low"}, {"low", "N", "<"}, {"<", "<", "high"}, {"high", "N", "end"},
	{"item", "attacker", "attacker"}, {"attacker", "N", "end"}, {"end", ";", "item"},
	{"item", "hatch", "hatch"}, {"hatch", "N", "="}, {"=", "=", "body"}, {"body", "E", "to"}, {"to", "to", "point"},
	{"point", "N", "in"}, {"in", "in", "fun"}, {"fun", "N", "fun2"}, {"fun", "main", "fun2"}, {"fun2", ",", "fun"}, {"fun2", ";", "item"},
}

// after is the place behind a token that comes at a place; none, if it can't be there.
func after(place string, t lex.Token) string {
	for _, l := range places {
		isName := l[1] == "N" && t.Kind == lex.Name
		isOwn := l[1] == t.Text && (t.Kind == lex.Word || t.Kind == lex.Mark)
		if l[0] == place && (isName || isOwn) {
			return l[2]
		}
	}
	return ""
}

// words is a text by the table.
type words struct {
	text   string
	tokens []lex.Token
	next   int
	policy policy.Policy
}

func (w *words) wrong(code api.Errno, name string) error {
	return api.Diag{Code: code, At: w.tokens[w.next].At, Name: name}
}

// all goes through the text token by token.
func (w *words) all() error {
	place, items := "item", 0
	for ; ; w.next++ {
		if place == "body" {
			if err := w.body(); err != nil {
				return err
			}
			place = "to"
		}
		t := w.tokens[w.next]
		if place == "item" {
			if t.Kind == lex.End {
				break
			}
			if items++; items > 100 {
				return w.wrong(6, "")
			}
		}
		if err := w.put(place, t); err != nil {
			return err
		}
		place = after(place, t)
	}
	if w.policy.Attacker == (program.Name{}) {
		return w.wrong(16, "attacker")
	}
	return nil
}

// put keeps what a token is at its place.
func (w *words) put(place string, t lex.Token) error {
	if after(place, t) == "" {
		return w.wrong(5, "")
	}
	p, n := &w.policy, program.Name{Text: t.Text, At: t.At}
	hatch := len(p.Hatches) - 1
	switch {
	case t.Kind == lex.Mark || t.Kind == lex.Word && place != "fun":
	case place == "conf":
		p.Conf = append(p.Conf, n)
	case place == "integ":
		p.Integ = append(p.Integ, n)
	case place == "low":
		p.Order = append(p.Order, [2]program.Name{n})
	case place == "high":
		p.Order[len(p.Order)-1][1] = n
	case place == "attacker" && p.Attacker != (program.Name{}):
		return w.wrong(8, t.Text)
	case place == "attacker":
		p.Attacker = n
	case place == "hatch":
		p.Hatches = append(p.Hatches, policy.Hatch{Name: n})
	case place == "point":
		p.Hatches[hatch].To = n
	case place == "fun":
		p.Hatches[hatch].In = append(p.Hatches[hatch].In, n)
	}
	return nil
}

// body is layer 5's reading of what is left, at the place where it stands.
func (w *words) body() error {
	lines := strings.SplitAfter(w.text, "\n")
	at := w.tokens[w.next].At
	line := lines[at.Line-1]
	r, err := expr.New(strings.Repeat("\n", at.Line-1) + strings.Repeat(" ", at.Col-1) + line[at.Col-1:] + strings.Join(lines[at.Line:], ""))
	if err != nil {
		return err
	}
	r.Tree = w.policy.Tree
	w.policy.Hatches[len(w.policy.Hatches)-1].Body, err = r.Expr()
	for err == nil && w.tokens[w.next].At != r.Next().At {
		w.next++
	}
	return err
}

// holdAgainstWords reports the code that a text has by the words, 0 if it is a policy.
func holdAgainstWords(t *testing.T, s string) api.Errno {
	t.Helper()
	tokens, err := lex.Tokens(s)
	if err != nil {
		t.Fatalf("%q: %v", s, err)
	}
	w := &words{text: s, tokens: tokens, policy: policy.Policy{Tree: &tree.Tree{}}}
	var d api.Diag
	if errors.As(w.all(), &d) {
		wantDiag(t, s, d)
		return d.Code
	}
	p := wantPolicy(t, s, w.policy)
	wantTree(t, p.Tree, nodes(w.policy.Tree)...)
	return 0
}

// pieces are one of each mark and word, names, and numbers.
var pieces = strings.Fields(`( ) { } , ; : ! + - * = < := -> x low 0 12
	let in if then else try with out raise true false not and or fst snd release hole
	input global channel exception fun main conf integ order attacker hatch to`)

// examples are items of each kind; the last is an attacker.
func examples() (l [][]string) {
	for _, s := range []string{
		"conf a ;", "conf a , b ;", "conf a , b , c ;", "integ a ;", "integ a , b ;", "order a < b ;",
		"hatch h = 1 to p in f ;", "hatch h = x to p in main ;", "hatch h = x ; y to p in f , g ;", "hatch h = let x = 1 in x + 2 to p in main , g , main ;",
		"attacker a ;",
	} {
		l = append(l, strings.Fields(s))
	}
	return l
}

func wantEach(t *testing.T, got map[api.Errno]int, codes ...api.Errno) {
	t.Helper()
	for _, c := range codes {
		if got[c] < 100 {
			t.Errorf("only %d texts with the error %d: %v", got[c], c, got)
		}
	}
}

// At each place of each item: every token there instead, or besides, and the text's end there, alone and among others.
func TestP7_1EveryPlace(t *testing.T) {
	codes := map[api.Errno]int{}
	for _, item := range examples() {
		for _, before := range []string{"", "attacker b ; ", "conf a ;\n"} {
			for _, behind := range []string{"", " attacker c ;", "\nhatch h = 1 to p in f ;"} {
				for i := range len(item) + 1 {
					ahead, rest := before+strings.Join(item[:i], " "), item[i:]
					codes[holdAgainstWords(t, ahead)]++
					codes[holdAgainstWords(t, ahead+behind)]++
					for _, s := range pieces {
						codes[holdAgainstWords(t, ahead+" "+s+" "+strings.Join(rest, " ")+behind)]++
						codes[holdAgainstWords(t, ahead+" "+s+" "+strings.Join(rest[min(1, len(rest)):], " ")+behind)]++
					}
				}
			}
		}
	}
	wantEach(t, codes, api.OK, api.ErrSyntax, api.ErrTwice, api.ErrMissing)
}

// All texts of up to 3 tokens.
func TestP7_1ShortTexts(t *testing.T) {
	holdAgainstWords(t, "")
	for _, a := range pieces {
		holdAgainstWords(t, a)
		for _, b := range pieces {
			holdAgainstWords(t, a+" "+b)
			for _, c := range pieces {
				holdAgainstWords(t, a+" "+b+" "+c)
			}
		}
	}
}

// randomItems is about n items, most often with one attacker.
func randomItems(rnd *rand.Rand, n int) (l []string) {
	kinds := examples()
	attacker := rnd.Intn(n + 1)
	for i := range n {
		item := kinds[rnd.Intn(len(kinds)-1)]
		if i == attacker || rnd.Intn(4*n) == 0 {
			item = kinds[len(kinds)-1]
		}
		l = append(l, item...)
	}
	return l
}

// randomText is a few items, or more than a policy may have, with a few tokens changed.
func randomText(rnd *rand.Rand) string {
	n := rnd.Intn(8)
	if rnd.Intn(12) == 0 {
		n = 98 + rnd.Intn(5)
	}
	l := randomItems(rnd, n)
	for range rnd.Intn(3) {
		i := rnd.Intn(len(l) + 1)
		j := min(len(l), i+rnd.Intn(2))
		l = slices.Replace(l, i, j, []string{pieces[rnd.Intn(len(pieces))]}[:rnd.Intn(2)]...)
	}
	var b strings.Builder
	for _, s := range l {
		b.WriteString(s)
		b.WriteString([]string{" ", "  ", "\n", " # ;\n "}[max(0, rnd.Intn(8)-4)])
	}
	return b.String()
}

func TestP7_1RandomTexts(t *testing.T) {
	rnd := rand.New(rand.NewSource(7))
	codes := map[api.Errno]int{}
	for range 10000 {
		codes[holdAgainstWords(t, randomText(rnd))]++
	}
	wantEach(t, codes, api.OK, api.ErrSyntax, api.ErrLimit, api.ErrTwice, api.ErrMissing)
}

// P2: another call is no part of an answer, and no two answers share anything.
func TestP2Parse(t *testing.T) {
	const s = "conf a , b ; integ c ; order a < b ; hatch h = x to p in f , main ; attacker c ;"
	a := parse(t, s)
	policy.Parse("attacker a; attacker b;")
	b := parse(t, s)
	if a == b || a.Tree == b.Tree {
		t.Error("two answers to one call are one")
	}
	a.Add(api.Node{Op: "unit"})
	a.Conf[0].Text, a.Integ[0].Text, a.Order[0][1].Text, a.Attacker.Text = "other", "other", "other", "other"
	a.Hatches[0].Text, a.Hatches[0].In[0].Text, a.Hatches[0].To.Text = "other", "other", "other"
	w := words{text: s, policy: policy.Policy{Tree: &tree.Tree{}}}
	w.tokens, _ = lex.Tokens(s)
	if err := w.all(); err != nil {
		t.Fatal(err)
	}
	wantTree(t, b.Tree, nodes(w.policy.Tree)...)
	if b.Conf[0].Text != "a" || b.Integ[0].Text != "c" || b.Order[0][1].Text != "b" || b.Attacker.Text != "c" {
		t.Error("two policies share their points:", b)
	}
	if h := b.Hatches[0]; h.Text != "h" || h.In[0].Text != "f" || h.To.Text != "p" {
		t.Error("two policies share their hatches:", b)
	}
}

// An answer's lists can be added to, one by one.
func TestP7_1ListsAreApart(t *testing.T) {
	p := parse(t, "conf a; integ b; hatch h = 1 to p in f; hatch g = 2 to p in main; conf c; attacker b;")
	_ = append(p.Conf, program.Name{Text: "other"})
	_ = append(p.Hatches[0].In, program.Name{Text: "other"})
	if p.Integ[0].Text != "b" || p.Hatches[1].In[0].Text != "main" || len(p.Conf) != 2 {
		t.Error("lists that share memory:", p)
	}
}

func FuzzParse(f *testing.F) {
	for _, l := range examples() {
		f.Add(strings.Join(l, " "))
		f.Add(strings.Join(l, " ") + "\nattacker a;")
	}
	f.Add("")
	f.Fuzz(func(t *testing.T, s string) {
		p, err := policy.Parse(s)
		var d api.Diag
		if (err == nil) == (p == nil) || err != nil && !errors.As(err, &d) {
			t.Errorf("Parse(%q) = %v, %v", s, p, err)
		}
		if err == nil {
			p.Lattice()
		}
		ascii := !strings.ContainsFunc(s, func(c rune) bool { return c > '~' })
		if _, e := lex.Tokens(s); e == nil && ascii {
			holdAgainstWords(t, s)
		}
	})
}
