package scope

import (
	"whisper/api"
	"whisper/policy"
	"whisper/program"
)

// checker goes through a policy and a program, and reports what is wrong with their names.
type checker struct {
	policy              *policy.Policy
	program             *program.Program
	ofPolicy, ofProgram report

	inputs, globals, channels, exceptions, funs, hatches places

	holes map[string]int // how many of each name there were
	vars  map[string]int // how many parameters, and lets, of each name a var may mean
}

func wrongNames(p *program.Program, q *policy.Policy) Wrong {
	c := checker{program: p, policy: q, holes: map[string]int{}}
	c.declarations()
	for _, h := range q.Hatches {
		c.hatch(h)
	}
	for _, f := range p.Funs {
		c.fun(f)
	}
	c.fun(p.Main)
	return Wrong{Policy: c.ofPolicy.diags(), Program: c.ofProgram.diags()}
}

// declarations comes first: the names of all of them may be used everywhere.
func (c *checker) declarations() {
	p, r := c.program, &c.ofProgram
	c.hatches = declared(&c.ofPolicy, hatchTwice, c.policy.Hatches, hatchName)
	c.inputs = declared(r, inputTwice, p.Inputs, declName)
	c.globals = declared(r, globalTwice, p.Globals, declName)
	c.channels = declared(r, channelTwice, p.Channels, declName)
	c.exceptions = declared(r, exceptionTwice, p.Exns, declName)
	c.funs = declared(r, funTwice, p.Funs, funName)
	for _, l := range [][]program.Decl{p.Inputs, p.Globals, p.Channels} {
		for _, d := range l {
			r.addIf(policy.Point(c.policy.Conf, d.Conf.Text) < 0, noPoint, d.Conf)
			r.addIf(policy.Point(c.policy.Integ, d.Integ.Text) < 0, noPoint, d.Integ)
		}
	}
}

func (c *checker) hatch(h policy.Hatch) {
	r := &c.ofPolicy
	r.addIf(policy.Point(c.policy.Conf, h.To.Text) < 0, hatchPoint, h.To)
	for _, f := range h.In {
		r.addIf(f.Text != program.Main && !c.funs.has(f.Text), hatchFun, f)
	}
	for _, n := range c.policy.Each(h.Body) {
		r.addIf(!mayBeInHatch(n.Op), hatchOp, program.Name{Text: n.Op, At: n.At})
		r.addIf(n.Op == "var" && !c.inputs.has(n.Name), hatchVar, nodeName(n))
	}
}

func mayBeInHatch(op string) bool {
	switch op {
	case "int", "true", "false", "var", "neg", "not", "+", "-", "*", "=", "<", "and", "or", "if":
		return true
	}
	return false
}

// fun is for main, too.
func (c *checker) fun(f program.Fun) {
	c.vars = map[string]int{}
	declared(&c.ofProgram, paramTwice, f.Params, paramName)
	for _, n := range f.Params {
		c.ofProgram.addIf(c.inputs.has(n.Text), paramIsInput, n)
		c.vars[n.Text]++
	}
	c.expr(f.Body)
}

func (c *checker) expr(i int) {
	n, _ := c.program.Get(i)
	c.node(n)
	for place, k := range n.Kids {
		switch {
		case n.Op == "let" && place == 1:
			c.vars[n.Name]++
			c.expr(k)
			c.vars[n.Name]--
		case n.Op == "hole":
			c.foreign(k)
		default:
			c.expr(k)
		}
	}
}

// foreign is for the part of a hole: it is written where the variables around the hole aren't known.
func (c *checker) foreign(i int) {
	outer := c.vars
	c.vars = map[string]int{}
	c.expr(i)
	c.vars = outer
}

func (c *checker) node(n api.Node) {
	switch n.Op {
	case "let":
		c.wrongIf(c.inputs.has(n.Name), letIsInput, n)
	case "var":
		c.wrongIf(!c.inputs.has(n.Name) && c.vars[n.Name] == 0, noVar, n)
	case "get", "set":
		c.wrongIf(!c.globals.has(n.Name), noGlobal, n)
	case "out":
		c.wrongIf(!c.channels.has(n.Name), noChannel, n)
	case "raise", "try":
		c.wrongIf(!c.exceptions.has(n.Name), noException, n)
	case "release":
		c.wrongIf(!c.hatches.has(n.Name), noHatch, n)
	case "call":
		place, ok := c.funs[n.Name]
		c.wrongIf(!ok, noFun, n)
		c.wrongIf(ok && len(n.Kids) != len(c.program.Funs[place].Params), callParts, n)
	case "hole":
		c.wrongIf(c.holes[n.Name] > 0, holeTwice, n)
		c.holes[n.Name]++
	}
}

func (c *checker) wrongIf(isWrong bool, k kind, n api.Node) {
	c.ofProgram.addIf(isWrong, k, nodeName(n))
}

// nodeName is a node's name, at the node.
func nodeName(n api.Node) program.Name {
	return program.Name{Text: n.Name, At: n.At}
}
