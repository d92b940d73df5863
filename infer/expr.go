package infer

import (
	"slices"

	"whisper/api"
	"whisper/program"
	"whisper/tree"
	"whisper/types"
)

// The functions of this file find the types of expressions. An error ends all of them at once, by a panic that wrongIn recovers.

// variable is a parameter, or what a let names, and those around it.
type variable struct {
	name   string
	is     types.Type
	around *variable
}

// expr is the type of an expression with variables; the inputs are known besides.
func (x *inferer) expr(t *tree.Tree, i int, vars *variable) types.Type {
	n, _ := t.Get(i)
	var kids []types.Type
	for place, k := range n.Kids {
		inside := vars
		switch {
		case n.Op == "let" && place == 1:
			inside = &variable{name: n.Name, is: kids[0], around: vars}
		case n.Op == "hole": // its part is written where the variables around the hole aren't known
			inside = nil
		}
		kids = append(kids, x.expr(t, k, inside))
	}
	// A tree that no text was parsed into may have nodes of any form, and none where one should be.
	if !mayHave(n.Op, len(kids)) {
		wrong(n)
	}
	return x.node(n, kids, vars)
}

// mayHave tells whether there is such an Op, and whether its nodes may have that many Kids; those of a call are held against the function's parameters.
func mayHave(op string, kids int) bool {
	switch op {
	case "int", "get", "true", "false", "unit", "var", "raise":
		return kids == 0
	case "hole":
		return kids <= 1
	case "neg", "not", "out", "set", "fst", "snd", "release":
		return kids == 1
	case "+", "-", "*", "=", "<", "and", "or", "pair", "try", "let", "seq":
		return kids == 2
	case "if":
		return kids == 3
	}
	return op == "call"
}

// node is a node's type, from those of its Kids.
func (x *inferer) node(n api.Node, kids []types.Type, vars *variable) types.Type {
	switch n.Op {
	case "int", "get", "hole", "neg", "+", "-", "*":
		return x.each(n, kids, types.Int, types.Int)
	case "=", "<":
		return x.each(n, kids, types.Int, types.Bool)
	case "true", "false", "not", "and", "or":
		return x.each(n, kids, types.Bool, types.Bool)
	case "unit", "out", "set":
		return x.each(n, kids, types.Int, types.Unit)
	case "var":
		return x.variable(n, vars)
	case "raise":
		return x.Var()
	case "pair":
		return x.pair(kids[0], kids[1])
	case "fst", "snd":
		return x.half(n, kids[0])
	case "if":
		x.fit(n, kids[0], types.Bool)
		x.fit(n, kids[1], kids[2])
		return kids[1]
	case "try":
		x.fit(n, kids[0], kids[1])
		return kids[0]
	case "release":
		x.fit(n, kids[0], x.hatch(n))
		return kids[0]
	case "call":
		return x.call(n, kids)
	}
	return kids[1] // a let, a seq
}

// each fits all Kids with the type that they must have, and returns the node's own.
func (x *inferer) each(n api.Node, kids []types.Type, must, own types.Type) types.Type {
	for _, k := range kids {
		x.fit(n, k, must)
	}
	return own
}

func (x *inferer) variable(n api.Node, vars *variable) types.Type {
	for v := vars; v != nil; v = v.around {
		if v.name == n.Name {
			return v.is
		}
	}
	isInput := slices.ContainsFunc(x.scope.Inputs, func(d program.Decl) bool { return d.Text == n.Name })
	if !isInput {
		wrong(n)
	}
	return types.Int
}

func (x *inferer) pair(a, b types.Type) types.Type {
	p, _ := x.Pair(a, b) // both exist: they are types of nodes
	return p
}

// half is the type of a pair's first, or second, value.
func (x *inferer) half(n api.Node, kid types.Type) types.Type {
	first, second := x.Var(), x.Var()
	x.fit(n, kid, x.pair(first, second))
	if n.Op == "fst" {
		return first
	}
	return second
}

// hatch is the type of the hatch by which a node releases. Of several with that name the first one is meant, as layer 9 does; so it is for functions.
func (x *inferer) hatch(n api.Node) types.Type {
	i := slices.IndexFunc(x.hatches, func(h hatch) bool { return h.name == n.Name })
	if i < 0 {
		wrong(n)
	}
	return x.hatches[i].is
}

func (x *inferer) call(n api.Node, kids []types.Type) types.Type {
	i := slices.IndexFunc(x.funs, func(f fun) bool { return f.Text == n.Name })
	if i < 0 || len(x.funs[i].params) != len(kids) {
		wrong(n)
	}
	f := x.funs[i]
	for place, k := range kids {
		x.fit(n, k, f.params[place])
	}
	return f.result
}

// fit unifies two types, which must be one at a node.
func (x *inferer) fit(n api.Node, a, b types.Type) {
	if x.Unify(a, b) != api.OK {
		wrong(n)
	}
}

// wrong ends the inference at a node: its types do not fit, or it has none.
func wrong(n api.Node) {
	panic(api.Diag{Code: api.ErrType, At: n.At, Name: n.Op})
}
