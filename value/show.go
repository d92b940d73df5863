package value

import (
	"strconv"
	"strings"
)

// piece is a value to be written, or, if it has none, a text.
type piece struct {
	v    *Value
	text string
}

// Show is a value's text. It has a list of what is still to be written, as pairs may be nested deeper than calls may be.
func Show(v Value) string {
	if !Right(v) {
		return "?"
	}
	var b strings.Builder
	todo := []piece{{v: &v}}
	for len(todo) > 0 {
		last := len(todo) - 1
		p := todo[last]
		todo = todo[:last]
		switch {
		case p.v == nil:
			b.WriteString(p.text)
		case p.v.Op == couple:
			b.WriteByte('(')
			todo = append(todo, piece{text: ")"}, piece{v: &p.v.Kids[1]}, piece{text: ", "}, piece{v: &p.v.Kids[0]})
		default:
			b.WriteString(plain(*p.v))
		}
	}
	return b.String()
}

// plain is the text of a value that is no pair.
func plain(v Value) string {
	switch v.Op {
	case number:
		return strconv.FormatInt(v.Int, 10)
	case nothing:
		return "()"
	}
	return v.Op
}
