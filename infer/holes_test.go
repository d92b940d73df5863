package infer_test

import (
	"testing"

	"whisper/api"
	"whisper/expr"
	"whisper/infer"
	"whisper/program"
	"whisper/scope"
	"whisper/tree"
)

// The tests of P11.1 for holes with a Kid, which no text has.

// filled is a program of which some holes have a Kid; its nodes are where they are in the text of that.
func filled(t *testing.T, text string, fills map[string]string) *scope.Scope {
	t.Helper()
	from := parseProgram(t, declared+text)
	p := *from
	p.Tree = &tree.Tree{}
	var fill func(n api.Node) (int, bool)
	copied := func(t *tree.Tree, i int) int {
		k, _ := p.Tree.Copy(t, i, fill)
		return k
	}
	fill = func(n api.Node) (int, bool) {
		s, ok := fills[n.Name]
		if n.Op != "hole" || !ok {
			return 0, false
		}
		x, i, err := expr.Parse(s)
		if err != nil {
			t.Fatal(s, err)
		}
		n.Kids = []int{copied(x, i)}
		k, _ := p.Tree.Add(n)
		return k, true
	}
	p.Funs = append([]program.Fun{}, p.Funs...)
	for i, f := range p.Funs {
		p.Funs[i].Body = copied(from.Tree, f.Body)
	}
	p.Main.Body = copied(from.Tree, p.Main.Body)
	s, w := scope.Of(&p, parsePolicy(t, hatches))
	if s == nil {
		t.Fatal(text, w)
	}
	return s
}

func TestP11_1Holes(t *testing.T) {
	for _, c := range []struct{ text, a, b, want string }{
		{"main = hole a;", "1", "", "main[] int"},
		{"main = hole a;", "i", "", "main[] int"},
		{"main = hole a;", "raise E", "", "main[] int"},
		{"main = hole a;", "i + !g; g := 1; 3", "", "main[] int"},
		{"main = hole a;", "let x = true in if x then i else k", "", "main[] int"},
		{"main = hole a;", "let x = 1 in let x = (x, true) in fst x", "", "main[] int"},
		{"main = hole a;", "hole b", "2", "main[] int"},
		{"main = hole a;", "let x = true in if x then hole b else 2", "let x = 1 in x", "main[] int"},
		{"main = (hole a, hole b);", "1", "release num (1)", "main[] (int, int)"},
		{"main = hole a = hole b;", "1", "fst (1, true)", "main[] bool"},
		// A variable with the same name, around the hole.
		{"main = let x = true in (hole a, x);", "let x = 1 in x", "", "main[] (int, bool)"},
		{"fun f(x) = (hole a; not x); main = 1;", "let x = 2 in x", "", "f[bool] bool; main[] int"},
		{"fun f(x) = (not x; hole a); main = 1;", "let x = 2 in x", "", "f[bool] int; main[] int"},
		{"fun f(x) = hole a; main = 1;", "f(raise E)", "", "f['0] int; main[] int"},
		{"fun f(x) = hole a; main = 1;", "let x = true in f(x)", "", "f[bool] int; main[] int"},
	} {
		fills := map[string]string{"a": c.a}
		if c.b != "" {
			fills["b"] = c.b
		}
		s := filled(t, c.text, fills)
		if got, want := tell(infer.Of(s)), c.want+"; hatches: int | bool"; got != want {
			t.Errorf("%s, %s, %s: %s; want %s", c.text, c.a, c.b, got, want)
		}
	}
}

// The error is at the hole where its Kid has another type, and in the Kid where there is one in it.
func TestP11_1WrongHoles(t *testing.T) {
	for _, c := range []struct{ text, a, want string }{
		{"main = hole a;", "true", "2:8 10 hole"},
		{"main = hole a;", "()", "2:8 10 hole"},
		{"main = hole a;", "(1, 1)", "2:8 10 hole"},
		{"main = hole a;", "hole b; g := 1", "2:8 10 hole"},
		{"main = 1 + hole a;", "i < 1", "2:12 10 hole"},
		{"main = not hole a;", "i", "2:8 10 not"},
		{"main = not hole b;", "i", "2:8 10 not"},
		{"main = not hole a;", "true", "2:12 10 hole"},
		{"main = hole a;", "let x = 1 in not x", "1:14 10 not"},
		{"main = let x = 1 in hole a;", "let x = true in 1 + x", "1:19 10 +"},
		{"fun f(x) = (hole a; not f(2)); main = 1;", "f(1)", "2:21 10 not"},
		{"fun f(x) = (hole a; x + 1); main = 1;", "not f(1)", "2:13 10 hole"},
		{"fun f(x) = hole a; main = f(1);", "f(true)", "2:27 10 call"},
		{"main = hole a + not 1;", "- true", "1:1 10 neg"},
		{"main = not 1 = hole a;", "- true", "2:8 10 not"},
	} {
		s := filled(t, c.text, map[string]string{"a": c.a})
		if got, want := tell(infer.Of(s)), "wrong the policy: the program: "+c.want; got != want {
			t.Errorf("%s, %s: %s; want %s", c.text, c.a, got, want)
		}
	}
}
