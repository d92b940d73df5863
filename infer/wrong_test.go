package infer_test

import (
	"errors"
	"reflect"
	"slices"
	"strings"
	"testing"

	"whisper/api"
	"whisper/infer"
	"whisper/policy"
	"whisper/program"
	"whisper/scope"
	"whisper/tree"
)

// The tests of what Of answers for no scope, and for one that neither a text nor layer 9 made; and those of P1, P2 and the rules.

func TestP11_1Nil(t *testing.T) {
	p, q := parseProgram(t, "main = 1;"), parsePolicy(t, points)
	for name, s := range map[string]*scope.Scope{
		"nil": nil, "zero": {}, "no program": {Policy: q}, "no policy": {Program: p},
	} {
		x, w := infer.Of(s)
		if len(x.Funs) > 0 || len(x.Hatches) > 0 {
			t.Error(name, x)
		}
		want := []api.Diag{{Code: api.ErrArg}}
		if !slices.Equal(w.Policy, want) || !slices.Equal(w.Program, want) {
			t.Error(name, w)
			continue
		}
		w.Policy[0].Name = "other"
		if w.Program[0] != want[0] {
			t.Error(name, "both lists share an error")
		}
	}
}

func TestP11_1ErrorsAreDiags(t *testing.T) {
	_, w := infer.Of(scopeOf(t, points, "main = not 1;"))
	if len(w.Program) != 1 || !errors.Is(w.Program[0], api.ErrType) || w.Policy != nil {
		t.Error(w)
	}
	x, w := infer.Of(scopeOf(t, points, "main = 1;"))
	if len(w.Policy)+len(w.Program) > 0 || len(x.Funs) != 1 || len(x.Funs[0].Params)+len(x.Hatches) > 0 {
		t.Error(x, w)
	}
}

// byHand is a Scope whose main, and whose only hatch if it has nodes, is the last one of some nodes; the column of each is its number.
func byHand(hatchNodes, mainNodes []api.Node) *scope.Scope {
	p, q := &program.Program{Tree: &tree.Tree{}}, &policy.Policy{Tree: &tree.Tree{}}
	add := func(t *tree.Tree, l []api.Node) int {
		for i, n := range l {
			n.At = api.Pos{Line: 1, Col: i}
			t.Add(n)
		}
		return len(l) - 1
	}
	p.Main = program.Fun{Name: program.Name{Text: "main"}, Body: add(p.Tree, mainNodes)}
	if len(hatchNodes) > 0 {
		q.Hatches = []policy.Hatch{{Name: program.Name{Text: "h"}, Body: add(q.Tree, hatchNodes)}}
	}
	return &scope.Scope{Program: p, Policy: q}
}

// one is a node with a number of Kids that have each type that may be wanted.
func one(op string, kids int) []api.Node {
	l := []api.Node{{Op: "raise"}, {Op: "raise"}, {Op: "raise"}, {Op: "raise"}}
	return append(l, api.Node{Op: op, Name: "main", Kids: []int{0, 1, 2, 3}[:kids]})
}

// Nodes of no Op, or with other Kids than theirs, have no type: the error is at the node.
func TestP11_1OtherNodes(t *testing.T) {
	all := rows()
	for op, r := range all {
		for kids := range 5 {
			if slices.Contains(r.howMany, string(rune('0'+kids))) || op == "call" && kids == 0 {
				continue
			}
			want := "wrong the policy: the program: 1:4 10 " + op
			if got := tell(infer.Of(byHand(nil, one(op, kids)))); got != want {
				t.Errorf("%s with %d Kids: %s; want %s", op, kids, got, want)
			}
			want = "wrong the policy: 1:4 10 " + op + " the program:"
			if got := tell(infer.Of(byHand(one(op, kids), one("int", 0)))); got != want {
				t.Errorf("%s with %d Kids in a hatch: %s; want %s", op, kids, got, want)
			}
		}
	}
	for _, op := range []string{"", "other", "Int", "num", "fun", "==", "/", "lambda", "let ", "main"} {
		for kids := range 5 {
			want := "wrong the policy: the program: 1:4 10 " + op
			if got := tell(infer.Of(byHand(nil, one(op, kids)))); got != want {
				t.Errorf("%s with %d Kids: %s; want %s", op, kids, got, want)
			}
		}
	}
}

// An error in a Kid comes ahead of that of a node that has no type.
func TestP11_1OtherNodesAfterTheirKids(t *testing.T) {
	l := []api.Node{{Op: "int"}, {Op: "not", Kids: []int{0}}, {Op: "other", Kids: []int{0, 1}}}
	if got, want := tell(infer.Of(byHand(nil, l))), "wrong the policy: the program: 1:1 10 not"; got != want {
		t.Errorf("%s; want %s", got, want)
	}
}

func TestP11_1NoNames(t *testing.T) {
	for _, n := range []api.Node{{Op: "var", Name: "x"}, {Op: "var"}, {Op: "release", Name: "x", Kids: []int{0}}, {Op: "call", Name: "x"}, {Op: "call", Name: "x", Kids: []int{0}}, {Op: "call", Kids: []int{0}}} {
		l := []api.Node{{Op: "raise"}, n}
		if got, want := tell(infer.Of(byHand(nil, l))), "wrong the policy: the program: 1:1 10 "+n.Op; got != want {
			t.Errorf("%s: %s; want %s", n.Op, got, want)
		}
		if got, want := tell(infer.Of(byHand(l, l[:1]))), "wrong the policy: 1:1 10 "+n.Op+" the program:"; got != want {
			t.Errorf("%s in a hatch: %s; want %s", n.Op, got, want)
		}
	}
	s := byHand([]api.Node{{Op: "int"}}, []api.Node{{Op: "raise"}, {Op: "release", Name: "h", Kids: []int{0}}})
	if got := tell(infer.Of(s)); got != "main[] int; hatches: int" {
		t.Error(got)
	}
}

func TestP11_1NoExpressions(t *testing.T) {
	for _, body := range []int{-1 << 63, -1, 1, 2, 1 << 40} {
		s := byHand(nil, one("int", 0)[:1])
		s.Main.Body = body
		if got := tell(infer.Of(s)); got != "wrong the policy: the program: 0:0 10 " {
			t.Error(body, got)
		}
		s = byHand(one("int", 0)[:1], one("int", 0)[:1])
		s.Policy.Hatches[0].Body = body
		if got := tell(infer.Of(s)); got != "wrong the policy: 0:0 10  the program:" {
			t.Error(body, got)
		}
	}
	s := byHand(nil, nil)
	s.Program.Tree = nil
	if got := tell(infer.Of(s)); got != "wrong the policy: the program: 0:0 10 " {
		t.Error(got)
	}
	s = byHand(one("int", 0), nil)
	s.Policy.Tree = nil
	if got := tell(infer.Of(s)); got != "wrong the policy: 0:0 10  the program:" {
		t.Error(got)
	}
}

// A parameter with an input's name, which layer 9 refuses, is the inner one of both; so is a let.
func TestP11_1InputsAreOutside(t *testing.T) {
	s := byHand(nil, []api.Node{{Op: "true"}, {Op: "var", Name: "x"}, {Op: "let", Name: "x", Kids: []int{0, 1}}, {Op: "var", Name: "x"}, {Op: "not", Kids: []int{3}}, {Op: "hole", Kids: []int{3}}})
	s.Inputs = []program.Decl{{Name: program.Name{Text: "x"}}}
	s.Main.Body = 2
	s.Funs = []program.Fun{{Name: program.Name{Text: "f"}, Params: []program.Name{{Text: "x"}}, Body: 4}, {Name: program.Name{Text: "g"}, Params: []program.Name{{Text: "x"}}, Body: 5}}
	if got := tell(infer.Of(s)); got != "f[bool] bool; g['0] int; main[] bool" {
		t.Error(got)
	}
}

// Hatches by hand may have an open type; all of them are numbered together, and what the program tells of them holds for them.
func TestP11_1OpenHatches(t *testing.T) {
	raise := []api.Node{{Op: "raise"}}
	release := func(name string) []api.Node {
		return []api.Node{{Op: "release", Name: name, Kids: []int{0}}}
	}
	for _, c := range []struct {
		name  string
		nodes []api.Node
		main  int
		want  string
	}{
		{"none is released", nil, 0, "main[] '0; hatches: '0 | '1 | ('2, '3)"},
		{"one is released", release("a"), 1, "main[] '0; hatches: '0 | '1 | ('2, '3)"},
		{"one as an int", append(release("b"), api.Node{Op: "neg", Kids: []int{1}}), 2, "main[] int; hatches: '0 | int | ('1, '2)"},
		{"two as one", append(release("a"), api.Node{Op: "release", Name: "b", Kids: []int{0}}, api.Node{Op: "seq", Kids: []int{1, 2}}, api.Node{Op: "true"}, api.Node{Op: "if", Kids: []int{4, 1, 2}}), 5, "main[] '0; hatches: '0 | '0 | ('1, '2)"},
		{"a part as an int", append(release("c"), api.Node{Op: "snd", Kids: []int{1}}, api.Node{Op: "neg", Kids: []int{2}}), 3, "main[] int; hatches: '0 | '1 | ('2, int)"},
	} {
		s := byHand([]api.Node{{Op: "raise"}, {Op: "pair", Kids: []int{0, 0}}}, append(slices.Clone(raise), c.nodes...))
		s.Main.Body = c.main
		s.Policy.Hatches = nil
		for i, name := range []string{"a", "b", "c"} {
			s.Policy.Hatches = append(s.Policy.Hatches, policy.Hatch{Name: program.Name{Text: name}, Body: i / 2})
		}
		if got := tell(infer.Of(s)); got != c.want {
			t.Errorf("%s: %s; want %s", c.name, got, c.want)
		}
	}
}

// Of several with one name the first one is meant.
func TestP11_1SameNames(t *testing.T) {
	s := byHand([]api.Node{{Op: "int"}, {Op: "true"}}, []api.Node{{Op: "raise"}, {Op: "release", Name: "h", Kids: []int{0}}, {Op: "call", Name: "f"}, {Op: "pair", Kids: []int{1, 2}}, {Op: "unit"}, {Op: "true"}})
	s.Main.Body = 3
	h := s.Policy.Hatches[0]
	h.Body = 0
	s.Policy.Hatches = append([]policy.Hatch{h}, s.Policy.Hatches...)
	f := program.Fun{Name: program.Name{Text: "f"}, Body: 4}
	s.Funs = []program.Fun{f, {Name: f.Name, Body: 5}, {Name: f.Name, Params: []program.Name{{Text: "a"}}, Body: 5}}
	if got := tell(infer.Of(s)); got != "f[] unit; f[] bool; f['0] bool; main[] (int, unit); hatches: int | bool" {
		t.Error(got)
	}
}

const allOfIt = `
exception D; fun f(a, b) = let d = a * i in if b then (d, raise E) else (hole h, raise F); fun z() = raise E;
main = (g := !g + 1; out c fst f(1, 2 = k); try z() with F -> release num (hole n); (snd (1, ()); not release test (true or false and true))); input z : {low ok};`

// The same call always makes the same choice, and nothing of a scope is modified.
func TestP2SameAnswers(t *testing.T) {
	for _, text := range []string{allOfIt, "main = not 1;"} {
		s, again := scopeOf(t, hatches, declared+text), scopeOf(t, hatches, declared+text)
		x, w := infer.Of(s)
		if !reflect.DeepEqual(s, again) {
			t.Error(text, "is modified")
		}
		for range 3 {
			y, v := infer.Of(s)
			if tell(x, w) != tell(y, v) || tell(x, w) != tell(infer.Of(again)) {
				t.Error(tell(x, w), tell(y, v))
			}
		}
		for i := range x.Funs {
			x.Funs[i].Name, x.Funs[i].Result = "other", "other"
			for k := range x.Funs[i].Params {
				x.Funs[i].Params[k] = "other"
			}
			_ = append(x.Funs[i].Params, "other")
		}
		if got := tell(infer.Of(s)); strings.Contains(got, "other") {
			t.Error("results are shared:", got)
		}
	}
}

func TestP11_1AllOfIt(t *testing.T) {
	wantOf(t, allOfIt, "f[int | bool] (int, '0); z[] int; main[] bool")
}

// No two lists of one answer share memory, not even behind their ends.
func TestP11_1ListsShareNothing(t *testing.T) {
	x, _ := infer.Of(scopeOf(t, hatches, declared+"fun f(a, b) = (b, a); main = 1;"))
	was := tell(x, scope.Wrong{})
	for _, f := range x.Funs {
		_ = append(f.Params, "other", "other", "other")
	}
	_ = append(x.Hatches, "other", "other")
	if got := tell(x, scope.Wrong{}); got != was {
		t.Errorf("%s; was %s", got, was)
	}
}
