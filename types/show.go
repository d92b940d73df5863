package types

import (
	"strconv"
	"strings"
)

// What a printer has to write beside types, which have no such numbers.
const (
	comma Type = -1 - iota
	bracket
)

// printer writes types; it numbers the open ones as they come.
type printer struct {
	types   *Types
	text    strings.Builder
	numbers map[Type]int
}

// Show is types' texts; what isn't known is numbered as it comes.
func (t *Types) Show(l ...Type) []string {
	p := printer{types: t, numbers: map[Type]int{}}
	texts := make([]string, len(l))
	for i, a := range l {
		if t.has(a) {
			texts[i] = p.show(a)
		}
	}
	return texts
}

// show has a list of what is still to be written, and no calls within calls: pairs may be nested deeper than calls may be.
func (p *printer) show(a Type) string {
	p.text.Reset()
	todo := []Type{a}
	for len(todo) > 0 {
		last := len(todo) - 1
		todo = p.write(todo[last], todo[:last])
	}
	return p.text.String()
}

// write writes what there is to write, of a pair only what is ahead of its parts; it adds what must follow, the last one first.
func (p *printer) write(a Type, todo []Type) []Type {
	switch a {
	case comma:
		p.text.WriteString(", ")
		return todo
	case bracket:
		p.text.WriteByte(')')
		return todo
	}
	a = p.types.now(a)
	n := p.types.get(a)
	if n.kind == pair {
		p.text.WriteByte('(')
		return append(todo, bracket, n.second, comma, n.first)
	}
	p.text.WriteString(p.name(a))
	return todo
}

// name is the text of a type that is no pair.
func (p *printer) name(a Type) string {
	switch a {
	case Int:
		return "int"
	case Bool:
		return "bool"
	case Unit:
		return "unit"
	}
	return "'" + strconv.Itoa(p.number(a))
}

// number is how many other open types came ahead of the first place of one.
func (p *printer) number(a Type) int {
	n, known := p.numbers[a]
	if !known {
		n = len(p.numbers)
		p.numbers[a] = n
	}
	return n
}
