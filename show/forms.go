package show

import (
	"strconv"

	"whisper/api"
)

// level is how strongly a form of layer 5 binds, the weakest first.
type level int

const (
	all level = iota
	item
	or
	and
	test
	sum
	times
	unary
)

// anyNumber stands for how many Kids a call has.
const anyNumber = -1

// form is what layer 5 gives an Op.
type form struct {
	level level
	kids  int
	known bool
}

func formOf(op string) form {
	switch op {
	case "seq":
		return form{all, 2, true}
	case "if":
		return form{item, 3, true}
	case "let", "try":
		return form{item, 2, true}
	case "out", "set":
		return form{item, 1, true}
	case "raise":
		return form{item, 0, true}
	case "or":
		return form{or, 2, true}
	case "and":
		return form{and, 2, true}
	case "=", "<":
		return form{test, 2, true}
	case "+", "-":
		return form{sum, 2, true}
	case "*":
		return form{times, 2, true}
	case "pair":
		return form{unary, 2, true}
	case "neg", "not", "fst", "snd", "release":
		return form{unary, 1, true}
	case "get", "true", "false", "hole", "unit", "int", "var":
		return form{unary, 0, true}
	case "call":
		return form{unary, anyNumber, true}
	}
	return form{}
}

// wellFormed tells whether a node has an Op of layer 5, and its Kids.
func wellFormed(n api.Node) bool {
	f := formOf(n.Op)
	return f.known && (f.kids == anyNumber || f.kids == len(n.Kids))
}

// node writes the tokens of a node and of its parts.
func (p *printer) node(n api.Node) {
	switch l := formOf(n.Op).level; l {
	case all:
		p.beforeSemicolon(n.Kids[0])
		p.tokens(";")
		p.part(n.Kids[1], all)
	case item:
		p.item(n)
	case test: // a test is no part of another one
		p.between(n, l+1, l+1)
	case unary:
		p.unary(n)
	default:
		p.between(n, l, l+1)
	}
}

func (p *printer) item(n api.Node) {
	switch n.Op {
	case "let":
		p.tokens("let", n.Name, "=")
		p.part(n.Kids[0], all)
		p.tokens("in")
		p.part(n.Kids[1], all)
	case "if":
		p.tokens("if")
		p.part(n.Kids[0], all)
		p.tokens("then")
		p.part(n.Kids[1], item)
		p.tokens("else")
		p.part(n.Kids[2], item)
	case "try":
		p.tokens("try")
		p.part(n.Kids[0], all)
		p.tokens("with", n.Name, "->")
		p.part(n.Kids[1], item)
	case "raise":
		p.tokens("raise", n.Name)
	case "out":
		p.tokens("out", n.Name)
		p.part(n.Kids[0], or)
	case "set":
		p.tokens(n.Name, ":=")
		p.part(n.Kids[0], or)
	}
}

// between writes a mark, or a word, between its two parts.
func (p *printer) between(n api.Node, left, right level) {
	p.part(n.Kids[0], left)
	p.tokens(n.Op)
	p.part(n.Kids[1], right)
}

func (p *printer) unary(n api.Node) {
	switch n.Op {
	case "neg":
		p.tokens("-")
		p.part(n.Kids[0], unary)
	case "not", "fst", "snd":
		p.tokens(n.Op)
		p.part(n.Kids[0], unary)
	case "get":
		p.tokens("!", n.Name)
	case "true", "false":
		p.tokens(n.Op)
	case "hole":
		p.tokens("hole", n.Name)
	case "release":
		p.tokens("release", n.Name)
		p.list(n.Kids)
	case "unit", "pair":
		p.list(n.Kids)
	case "int":
		p.tokens(strconv.FormatInt(n.Int, 10))
	case "var":
		p.tokens(n.Name)
	case "call":
		p.tokens(n.Name)
		p.tight = true
		p.list(n.Kids)
	}
}

// list writes parts in brackets, with commas between them.
func (p *printer) list(kids []int) {
	p.tokens("(")
	for place, k := range kids {
		if place > 0 {
			p.tokens(",")
		}
		p.part(k, all)
	}
	p.tokens(")")
}
