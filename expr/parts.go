package expr

import (
	"slices"

	"whisper/api"
	"whisper/lex"
)

// The functions of this file parse the parts of an expression, each by its rule in the chapter, and return a node's number. An error ends all of them at once, by a panic that Expr recovers. Their argument deep counts the items and unaries that are being parsed around the part.

// need ends the reading, if there is an error.
func need(e error) {
	if e != nil {
		panic(e)
	}
}

func (r *Reader) needName() string {
	t, e := r.Name()
	need(e)
	return t.Text
}

// enter is asked before the token is looked at: what is too deep is so whatever it would have been.
func (r *Reader) enter(deep int) int {
	if deep >= api.MaxDeep {
		panic(r.Wrong(api.ErrLimit))
	}
	return deep + 1
}

// add puts a node behind its parts, when all its tokens are skipped.
func (r *Reader) add(op string, at api.Pos, name string, kids ...int) int {
	return r.addNode(api.Node{Op: op, At: at, Name: name, Kids: kids})
}

func (r *Reader) addNode(n api.Node) int {
	i, code := r.Add(n)
	if code != api.OK {
		panic(r.Wrong(code))
	}
	return i
}

// all parses its items in a loop, not each within the one before it: a sequence may have any number of them.
func (r *Reader) all(deep int) int {
	items := []int{r.item(deep)}
	var marks []api.Pos
	for r.Is(";") && beginsItem(r.ahead(1)) {
		marks = append(marks, r.skip().At)
		items = append(items, r.item(deep))
	}
	rest := items[len(items)-1]
	for i, at := range slices.Backward(marks) {
		rest = r.add("seq", at, "", items[i], rest)
	}
	return rest
}

func (r *Reader) item(deep int) int {
	deep = r.enter(deep)
	switch {
	case r.Is("let"):
		return r.let(deep)
	case r.Is("if"):
		return r.choice(deep)
	case r.Is("try"):
		return r.guard(deep)
	case r.Is("raise"):
		return r.named("raise")
	case r.Is("out"):
		at := r.skip().At
		name := r.needName()
		return r.add("out", at, name, r.or(deep))
	case r.Next().Kind == lex.Name && isMarkOrWord(r.ahead(1), ":="):
		t := r.skip()
		need(r.Take(":="))
		return r.add("set", t.At, t.Text, r.or(deep))
	}
	return r.or(deep)
}

func (r *Reader) let(deep int) int {
	at := r.skip().At
	name := r.needName()
	need(r.Take("="))
	first := r.all(deep)
	need(r.Take("in"))
	return r.add("let", at, name, first, r.all(deep))
}

func (r *Reader) choice(deep int) int {
	at := r.skip().At
	test := r.all(deep)
	need(r.Take("then"))
	yes := r.item(deep)
	need(r.Take("else"))
	return r.add("if", at, "", test, yes, r.item(deep))
}

func (r *Reader) guard(deep int) int {
	at := r.skip().At
	first := r.all(deep)
	need(r.Take("with"))
	name := r.needName()
	need(r.Take("->"))
	return r.add("try", at, name, first, r.item(deep))
}

// named parses a mark or a word, and the name that it is about.
func (r *Reader) named(op string) int {
	at := r.skip().At
	return r.add(op, at, r.needName())
}

func (r *Reader) or(deep int) int {
	return r.chain(deep, (*Reader).and, "or")
}

func (r *Reader) and(deep int) int {
	return r.chain(deep, (*Reader).test, "and")
}

// test is no chain: a comparison has just two parts.
func (r *Reader) test(deep int) int {
	left := r.sum(deep)
	if r.Is("=") || r.Is("<") {
		return r.between(left, deep, (*Reader).sum)
	}
	return left
}

func (r *Reader) sum(deep int) int {
	return r.chain(deep, (*Reader).times, "+", "-")
}

func (r *Reader) times(deep int) int {
	return r.chain(deep, (*Reader).unary, "*")
}

// chain parses parts with marks, or words, between them; they associate to the left.
func (r *Reader) chain(deep int, part func(*Reader, int) int, marks ...string) int {
	left := part(r, deep)
	for slices.ContainsFunc(marks, r.Is) {
		left = r.between(left, deep, part)
	}
	return left
}

// between parses a mark, or a word, and the part behind it; the one ahead of it is there.
func (r *Reader) between(left, deep int, part func(*Reader, int) int) int {
	t := r.skip()
	return r.add(t.Text, t.At, "", left, part(r, deep))
}

func (r *Reader) unary(deep int) int {
	deep = r.enter(deep)
	t := r.Next()
	switch t.Kind {
	case lex.Number:
		r.skip()
		return r.addNode(api.Node{Op: "int", At: t.At, Int: t.Int})
	case lex.Name:
		return r.varOrCall(deep)
	}
	switch t.Text {
	case "-":
		return r.prefix("neg", deep)
	case "not", "fst", "snd":
		return r.prefix(t.Text, deep)
	case "!":
		return r.named("get")
	case "hole":
		return r.named("hole")
	case "true", "false":
		r.skip()
		return r.add(t.Text, t.At, "")
	case "release":
		return r.release(deep)
	case "(":
		return r.brackets(deep)
	}
	panic(r.Wrong(api.ErrSyntax))
}

// prefix parses a mark, or a word, and the unary that it stands ahead of.
func (r *Reader) prefix(op string, deep int) int {
	at := r.skip().At
	return r.add(op, at, "", r.unary(deep))
}

func (r *Reader) release(deep int) int {
	at := r.skip().At
	name := r.needName()
	need(r.Take("("))
	part := r.all(deep)
	need(r.Take(")"))
	return r.add("release", at, name, part)
}

// brackets around a single expression leave no node of their own.
func (r *Reader) brackets(deep int) int {
	at := r.skip().At
	if r.Is(")") {
		r.skip()
		return r.add("unit", at, "")
	}
	first := r.all(deep)
	if !r.Is(",") {
		need(r.Take(")"))
		return first
	}
	r.skip()
	second := r.all(deep)
	need(r.Take(")"))
	return r.add("pair", at, "", first, second)
}

func (r *Reader) varOrCall(deep int) int {
	t := r.skip()
	if !r.Is("(") {
		return r.add("var", t.At, t.Text)
	}
	r.skip()
	return r.add("call", t.At, t.Text, r.arguments(deep)...)
}

// arguments parses a call's, and the bracket that closes them.
func (r *Reader) arguments(deep int) []int {
	var l []int
	if !r.Is(")") {
		l = append(l, r.all(deep))
	}
	for r.Is(",") {
		r.skip()
		l = append(l, r.all(deep))
	}
	need(r.Take(")"))
	return l
}
