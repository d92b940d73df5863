package infer

import (
	"whisper/program"
	"whisper/scope"
	"whisper/types"
)

// inferer finds the types of a policy's and a program's expressions. What these need of one another is told by open types, which are unified as it goes on.
type inferer struct {
	*types.Types
	scope   *scope.Scope
	hatches []hatch
	funs    []fun // main is the last one
}

type hatch struct {
	name string
	is   types.Type
}

type fun struct {
	program.Fun
	params []types.Type
	result types.Type
}

func newInferer(s *scope.Scope) *inferer {
	return &inferer{Types: types.New(), scope: s}
}

func (x *inferer) policy() {
	q := x.scope.Policy
	for _, h := range q.Hatches {
		x.hatches = append(x.hatches, hatch{name: h.Text, is: x.expr(q.Tree, h.Body, nil)})
	}
}

// program declares all functions first: each may be called in all of them.
func (x *inferer) program() {
	p := x.scope.Program
	for _, f := range p.Funs {
		x.declare(f)
	}
	x.declare(p.Main)
	for _, f := range x.funs {
		body := x.expr(p.Tree, f.Body, f.variables())
		n, _ := p.Get(f.Body)
		x.fit(n, body, f.result)
	}
}

func (x *inferer) declare(f program.Fun) {
	var params []types.Type
	for range f.Params {
		params = append(params, x.Var())
	}
	x.funs = append(x.funs, fun{Fun: f, params: params, result: x.Var()})
}

// variables is a function's parameters.
func (f fun) variables() *variable {
	var all *variable
	for i, n := range f.Params {
		all = &variable{name: n.Text, is: f.params[i], around: all}
	}
	return all
}

// shown needs everything inferred: main, and each function, may tell what the types of all others are.
func (x *inferer) shown() Types {
	var all Types
	for _, f := range x.funs {
		texts := x.Show(append(f.params, f.result)...)
		last := len(f.params)
		all.Funs = append(all.Funs, Sig{Name: f.Text, Params: texts[:last:last], Result: texts[last]})
	}
	var hatches []types.Type
	for _, h := range x.hatches {
		hatches = append(hatches, h.is)
	}
	all.Hatches = x.Show(hatches...)
	return all
}
