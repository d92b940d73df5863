package show_test

import (
	"math/rand"
	"regexp"
	"strconv"
	"strings"
	"testing"

	"whisper/api"
	"whisper/expr"
	"whisper/lex"
	"whisper/show"
	"whisper/tree"
)

// The text of an expression by the chapter's words, put as tables: each Op's tokens as layer 5's grammar has them, and the levels.

// N is the name, I the number, @( the bracket of a call; what begins with a dot is a part, at a place of that rule of the grammar.
var grammar = map[string]string{
	"seq": ".item ; .all",
	"let": "let N = .all in .all", "if": "if .all then .item else .item", "try": "try .all with N -> .item",
	"raise": "raise N", "out": "out N .or", "set": "N := .or",
	"or": ".or or .and", "and": ".and and .test", "=": ".sum = .sum", "<": ".sum < .sum",
	"+": ".sum + .times", "-": ".sum - .times", "*": ".times * .unary",
	"neg": "- .unary", "not": "not .unary", "fst": "fst .unary", "snd": "snd .unary",
	"get": "! N", "true": "true", "false": "false", "hole": "hole N", "release": "release N ( .all )",
	"unit": "( )", "pair": "( .all , .all )", "int": "I", "var": "N",
}

// ops is the keys of grammar, and call.
var ops = strings.Fields("seq let if try raise out set or and = < + - * neg not fst snd get true false hole release unit pair int var call")

// levels has for each rule the Ops that are weaker than its place allows.
var levels = map[string]string{
	"all":   " ",
	"item":  " seq ",
	"or":    " seq let if try raise out set ",
	"and":   " seq let if try raise out set or ",
	"test":  " seq let if try raise out set or and ",
	"sum":   " seq let if try raise out set or and = < ",
	"times": " seq let if try raise out set or and = < + - ",
	"unary": " seq let if try raise out set or and = < + - * ",
}

func ruleOf(n api.Node) string {
	if n.Op != "call" {
		return grammar[n.Op]
	}
	return "N @( " + strings.TrimSuffix(strings.Repeat(".all , ", len(n.Kids)), ", ") + " )"
}

// tokensOf returns the tokens of an expression with a blank between each two.
func tokensOf(t *tree.Tree, i int) string {
	n, _ := t.Get(i)
	var out []string
	kid := 0
	fields := strings.Fields(ruleOf(n))
	for place, f := range fields {
		switch {
		case f == "N":
			f = n.Name
		case f == "I":
			f = strconv.FormatInt(n.Int, 10)
		case f[0] == '.':
			k := n.Kids[kid]
			kid++
			f = inPlace(t, k, f[1:], place+1 < len(fields) && fields[place+1] == ";")
		}
		out = append(out, f)
	}
	return strings.Join(out, " ")
}

func inPlace(t *tree.Tree, i int, rule string, semicolon bool) string {
	n, _ := t.Get(i)
	s := tokensOf(t, i)
	if strings.Contains(levels[rule], " "+n.Op+" ") || semicolon && lastIsLet(t, i) {
		return "( " + s + " )"
	}
	return s
}

func lastIsLet(t *tree.Tree, i int) bool {
	n, _ := t.Get(i)
	for n.Op == "if" || n.Op == "try" {
		n, _ = t.Get(n.Kids[len(n.Kids)-1])
	}
	return n.Op == "let"
}

// textByWords leaves out the blanks one by one, since brackets stand beside each other.
func textByWords(t *tree.Tree, i int) string {
	s := tokensOf(t, i)
	for _, r := range [][2]string{{" @(", "("}, {"( ", "("}, {"! ", "!"}, {" )", ")"}, {" ,", ","}, {" ;", ";"}} {
		s = strings.ReplaceAll(s, r[0], r[1])
	}
	return s
}

var namePattern = regexp.MustCompile(`^[a-zA-Z_][a-zA-Z_0-9]{0,39}$`)

// goodNode tells whether layer 5 gives a node of that kind.
func goodNode(n api.Node) bool {
	rule, known := grammar[n.Op]
	if !known && n.Op != "call" || n.Op != "call" && strings.Count(rule, ".") != len(n.Kids) {
		return false
	}
	if n.Op == "int" && (n.Int < 0 || n.Int > 999999999999999999) || n.Op != "int" && n.Int != 0 {
		return false
	}
	if n.Op != "call" && !strings.Contains(" "+rule+" ", " N ") {
		return n.Name == ""
	}
	return namePattern.MatchString(n.Name) && !lex.Own(n.Name)
}

// wantByWords holds Expr against the words, and tells whether there is a text.
func wantByWords(t *testing.T, x *tree.Tree, i int) bool {
	t.Helper()
	want, code := "", api.OK
	for _, n := range x.Each(i) {
		if !goodNode(n) {
			code = api.ErrArg
			break
		}
	}
	if code == api.OK {
		want = textByWords(x, i)
		if _, _, err := expr.Parse(want); err != nil { // too deep, or too much
			want, code = "", api.ErrArg
		}
	}
	if s, e := show.Expr(x, i); s != want || e != code {
		t.Fatalf("Expr = %s, %v; want %s, %v", short(s), e, short(want), code)
	}
	if code == api.OK {
		wantNoneToSpare(t, want)
	}
	return code == api.OK
}

// wantNoneToSpare takes each pair of brackets off a text: what is parsed then is another expression, or none.
func wantNoneToSpare(t *testing.T, s string) {
	t.Helper()
	x, i, err := expr.Parse(s)
	if err != nil {
		t.Fatalf("Parse(%s): %v", short(s), err)
	}
	l, _ := lex.Tokens(s)
	for from, to := range pairsOf(l) {
		a, b := l[from].At.Col-1, l[to].At.Col-1
		less := s[:a] + " " + s[a+1:b] + " " + s[b+1:]
		if y, k, err := expr.Parse(less); err == nil && tree.Same(x, i, y, k) {
			t.Fatalf("%s is the same as %s", short(less), short(s))
		}
	}
}

// pairsOf finds the brackets that belong together, except those of a unit, a pair, a call and a release.
func pairsOf(l []lex.Token) map[int]int {
	found := map[int]int{}
	var open []int
	kept := map[int]bool{}
	for k, token := range l {
		switch {
		case token.Kind != lex.Mark:
		case token.Text == "(":
			call := k > 0 && l[k-1].Kind == lex.Name && l[k-1].At.Col+len(l[k-1].Text) == token.At.Col
			release := k > 1 && l[k-2].Text == "release"
			kept[k] = call || release || l[k+1].Text == ")"
			open = append(open, k)
		case token.Text == ",":
			kept[open[len(open)-1]] = true
		case token.Text == ")":
			last := open[len(open)-1]
			open = open[:len(open)-1]
			if !kept[last] {
				found[last] = k
			}
		}
	}
	return found
}

// put adds a node that is well formed but for its Kids, which are given.
func put(t *testing.T, x *tree.Tree, op string, kids ...int) int {
	t.Helper()
	n := api.Node{Op: op, Kids: kids}
	switch op {
	case "int":
		n.Int = 7
	case "let", "try", "raise", "out", "set", "get", "hole", "release", "var", "call":
		n.Name = "n"
	}
	i, e := x.Add(n)
	if e != api.OK {
		t.Fatalf("Add(%v): %v", n, e)
	}
	return i
}

// kidsOf is how many Kids a node of an Op has; a call, here, as many as it is told.
func kidsOf(op string, call int) int {
	if op == "call" {
		return call
	}
	return strings.Count(grammar[op], ".")
}

// Every Op at every place of every Op, and that at every place of every Op: all the brackets there are, and those before a ;.
func TestP8_1EveryPlace(t *testing.T) {
	texts := 0
	for _, outer := range ops {
		for outerPlace := range kidsOf(outer, 2) {
			for _, inner := range ops {
				for place := range kidsOf(inner, 2) {
					for _, last := range ops {
						x := &tree.Tree{}
						i := withPart(t, x, last, -1, 0)
						i = withPart(t, x, inner, place, i)
						i = withPart(t, x, outer, outerPlace, i)
						if !wantByWords(t, x, i) {
							t.Fatalf("no text: %s of %s of %s", outer, inner, last)
						}
						texts++
					}
				}
			}
		}
	}
	if texts != 34*34*28 {
		t.Errorf("%d texts", texts)
	}
}

// withPart adds a node whose Kids are vars, but for one.
func withPart(t *testing.T, x *tree.Tree, op string, place, part int) int {
	t.Helper()
	var kids []int
	for k := range kidsOf(op, 2) {
		if k == place {
			kids = append(kids, part)
		} else {
			kids = append(kids, put(t, x, "var"))
		}
	}
	return put(t, x, op, kids...)
}

// Every Op with two parts between every two others.
func TestP8_1BothSides(t *testing.T) {
	for _, op := range strings.Fields("seq let try or and = < + - * pair") {
		for _, left := range ops {
			for _, right := range ops {
				x := &tree.Tree{}
				a := withPart(t, x, left, -1, 0)
				b := withPart(t, x, right, -1, 0)
				if !wantByWords(t, x, put(t, x, op, a, b)) {
					t.Fatalf("no text: %s of %s and %s", op, left, right)
				}
			}
		}
	}
}

// Each Op with each number of Kids that is not its own, at the top and within; a call with any number.
func TestP8_1Kids(t *testing.T) {
	for _, op := range ops {
		for count := range 8 {
			x := &tree.Tree{}
			kid := put(t, x, "var")
			var kids []int
			for range count {
				kids = append(kids, kid)
			}
			i := put(t, x, op, kids...)
			good := op == "call" || count == kidsOf(op, 0)
			if wantByWords(t, x, i) != good {
				t.Errorf("%s with %d Kids: %v", op, count, !good)
			}
			for _, outer := range ops {
				for place := range kidsOf(outer, 2) {
					if wantByWords(t, x, withPart(t, x, outer, place, i)) != good {
						t.Errorf("%s with %d Kids, within %s: %v", op, count, outer, !good)
					}
				}
			}
		}
	}
}

var wrongOps = []string{"", " ", "what", "Let", "let ", "LET", "==", ">", ":=", ";", "(", "!", "unary", "item", "name", "if then", "sub", "add", "seq seq", "vars", "in", "call(", "\x00", "\xff"}

func TestP8_1WrongOps(t *testing.T) {
	for _, op := range wrongOps {
		for count := range 4 {
			x := &tree.Tree{}
			kid := put(t, x, "var")
			var kids []int
			for range count {
				kids = append(kids, kid)
			}
			for _, name := range []string{"", "n"} {
				i, _ := x.Add(api.Node{Op: op, Name: name, Kids: kids})
				wantNoText(t, x, i)
				for _, outer := range ops {
					for place := range kidsOf(outer, 2) {
						wantNoText(t, x, withPart(t, x, outer, place, i))
					}
				}
			}
		}
	}
}

// random adds an expression of about that size, and returns its number; some nodes are not as layer 5's.
func random(t *testing.T, x *tree.Tree, rnd *rand.Rand, size int, wrong bool) int {
	if x.Len() > 0 && rnd.Intn(12) == 0 {
		return rnd.Intn(x.Len()) // once more
	}
	op := ops[rnd.Intn(len(ops))]
	if size <= 1 {
		op = []string{"raise", "get", "true", "false", "hole", "unit", "int", "var", "call"}[rnd.Intn(9)]
	}
	count := kidsOf(op, rnd.Intn(4))
	if op == "call" && size <= 1 {
		count = 0
	}
	if wrong && rnd.Intn(30) == 0 {
		count = rnd.Intn(5)
	}
	var kids []int
	for range count {
		kids = append(kids, random(t, x, rnd, (size-1)/count, wrong))
	}
	i := put(t, x, op, kids...)
	if !wrong || rnd.Intn(20) > 0 {
		return i
	}
	n, _ := x.Get(i)
	switch rnd.Intn(3) {
	case 0:
		n.Op = append(wrongOps, ops...)[rnd.Intn(len(wrongOps)+len(ops))]
	case 1:
		n.Name = append(wrongNames, goodNames...)[rnd.Intn(len(wrongNames)+len(goodNames))]
	case 2:
		n.Int = []int64{0, 1, -1, 999999999999999999, 1000000000000000000}[rnd.Intn(5)]
	}
	i, _ = x.Add(n)
	return i
}

func TestP8_1Random(t *testing.T) {
	good := 0
	for seed := range 6000 {
		rnd := rand.New(rand.NewSource(int64(seed)))
		x := &tree.Tree{}
		i := random(t, x, rnd, 1+seed%60, seed%2 == 0)
		if wantByWords(t, x, i) {
			good++
			wantSettled(t, x, i)
		}
	}
	if good < 3000 || good > 5500 {
		t.Errorf("%d of 6000 have a text", good)
	}
}
