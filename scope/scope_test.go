package scope_test

import (
	"reflect"
	"slices"
	"strconv"
	"strings"
	"testing"

	"whisper/api"
	"whisper/expr"
	"whisper/policy"
	"whisper/program"
	"whisper/scope"
	"whisper/tree"
)

// The tests of P9.1 where nothing is wrong, and of P9.2, each named after the part that it holds. Those of P9.1's errors are in
// wrong_test.go, and the chapter's words as such in words_test.go.

// points is two points of each kind: the first line of a policy.
const points = "conf low, high; order low < high; integ ok, bad; order ok < bad; attacker bad;\n"

// diamonds is four points of each kind, of which the ones in the middle aren't below one another.
const diamonds = "conf c0, c1, c2, c3; order c0 < c1; order c0 < c2; order c1 < c3; order c2 < c3;" +
	"integ i3, i2, i1, i0; order i0 < i1; order i0 < i2; order i1 < i3; order i2 < i3; attacker i1;\n"

func pos(line, col int) api.Pos { return api.Pos{Line: line, Col: col} }

// short is a text as a test tells it.
func short(s string) string {
	if len(s) > 200 {
		s = s[:200] + ".. of " + strconv.Itoa(len(s)) + " bytes"
	}
	return strconv.Quote(s)
}

func parseProgram(t *testing.T, s string) *program.Program {
	t.Helper()
	p, err := program.Parse(s)
	if err != nil {
		t.Fatalf("the program %s: %v", short(s), err)
	}
	return p
}

func parsePolicy(t *testing.T, s string) *policy.Policy {
	t.Helper()
	q, err := policy.Parse(s)
	if err != nil {
		t.Fatalf("the policy %s: %v", short(s), err)
	}
	return q
}

// resolved is the Scope of a program and a policy with which nothing is wrong.
func resolved(t *testing.T, p *program.Program, q *policy.Policy) *scope.Scope {
	t.Helper()
	s, w := scope.Of(p, q)
	if s == nil || len(w.Policy) > 0 || len(w.Program) > 0 {
		t.Fatalf("Of = %v; the policy: %s; the program: %s", s, tell(w.Policy), tell(w.Program))
	}
	return s
}

func scopeOf(t *testing.T, policyText, programText string) *scope.Scope {
	t.Helper()
	return resolved(t, parseProgram(t, programText), parsePolicy(t, policyText))
}

// allOfIt has some of all kinds, and uses all of it in each way.
const (
	allOfItsPolicy  = points + "hatch h = if x < 1 then x + y else - 2 to low in main, f; hatch k = not (true and false or x = 1) to high in f;"
	allOfItsProgram = `
input x : {high ok}; input y : {low bad};
global g : {low ok} = 1; global l : {high bad} = 2; global r : {low bad} = - 3;
channel c : {high bad}; exception E; exception F;
fun f(a, b) = let d = a * x in d + b; fun z() = raise E;
main = let a = hole m in (g := !l + a; out c f(1, y); try z() with F -> release h (hole n); (fst (1, ()); release k (x)));`
)

func TestP9_1NothingWrong(t *testing.T) {
	p, q := parseProgram(t, allOfItsProgram), parsePolicy(t, allOfItsPolicy)
	s := resolved(t, p, q)
	if s.Program != p || s.Policy != q {
		t.Error("the program and the policy are others")
	}
	l, attacker, err := q.Lattice()
	if err != nil || !reflect.DeepEqual(s.Lattice, l) || s.Attacker != attacker || attacker != 1 {
		t.Error("the lattice, and the attacker:", s.Lattice, s.Attacker, err)
	}
	want := scope.Labels{
		Inputs:   []api.Label{{Conf: 1}, {Integ: 1}},
		Globals:  []api.Label{{}, {Conf: 1, Integ: 1}, {Integ: 1}},
		Channels: []api.Label{{Conf: 1, Integ: 1}},
	}
	wantLabels(t, s.Labels, want)
}

func wantLabels(t *testing.T, got, want scope.Labels) {
	t.Helper()
	if !slices.Equal(got.Inputs, want.Inputs) || !slices.Equal(got.Globals, want.Globals) || !slices.Equal(got.Channels, want.Channels) {
		t.Errorf("labels: %v; want %v", got, want)
	}
}

func TestP9_1NoneOfAKind(t *testing.T) {
	s := scopeOf(t, points, "main = 1;")
	wantLabels(t, s.Labels, scope.Labels{})
	s = scopeOf(t, points, "channel c : {high ok}; main = 1;")
	wantLabels(t, s.Labels, scope.Labels{Channels: []api.Label{{Conf: 1}}})
	s = scopeOf(t, points, "global c : {high ok} = 1; exception E; main = 1;")
	wantLabels(t, s.Labels, scope.Labels{Globals: []api.Label{{Conf: 1}}})
	s = scopeOf(t, points, "input c : {low bad}; main = 1;")
	wantLabels(t, s.Labels, scope.Labels{Inputs: []api.Label{{Integ: 1}}})
}

// The attacker's point, and the labels' ones, are numbered by kinds.
func TestP9_1Numbers(t *testing.T) {
	s := scopeOf(t, diamonds, "input a : {c0 i0}; input b : {c1 i1}; input c : {c2 i2}; input d : {c3 i3}; main = 1;")
	wantLabels(t, s.Labels, scope.Labels{Inputs: []api.Label{{Conf: 0, Integ: 3}, {Conf: 1, Integ: 2}, {Conf: 2, Integ: 1}, {Conf: 3, Integ: 0}}})
	if s.Attacker != 2 || s.Lattice.Conf.Top() != 3 || s.Lattice.Integ.Top() != 0 {
		t.Error("the attacker, and the tops:", s.Attacker, s.Lattice.Top())
	}
}

func clones(p *program.Program, q *policy.Policy) (*program.Program, *policy.Policy) {
	a, b := *p, *q
	a.Tree, b.Tree = p.Tree.Clone(), q.Tree.Clone()
	a.Inputs, a.Globals, a.Channels, a.Exns = slices.Clone(p.Inputs), slices.Clone(p.Globals), slices.Clone(p.Channels), slices.Clone(p.Exns)
	a.Funs = slices.Clone(p.Funs)
	for i, f := range a.Funs {
		a.Funs[i].Params = slices.Clone(f.Params)
	}
	b.Conf, b.Integ, b.Order = slices.Clone(q.Conf), slices.Clone(q.Integ), slices.Clone(q.Order)
	b.Hatches = slices.Clone(q.Hatches)
	for i, h := range b.Hatches {
		b.Hatches[i].In = slices.Clone(h.In)
	}
	return &a, &b
}

func TestP9_1NothingIsModified(t *testing.T) {
	for _, text := range []string{allOfItsProgram, "input x : {no no}; fun f(a, a) = b; fun f() = f(1); main = f();"} {
		p, q := parseProgram(t, text), parsePolicy(t, allOfItsPolicy)
		a, b := clones(p, q)
		scope.Of(p, q)
		if !reflect.DeepEqual(p, a) || !reflect.DeepEqual(q, b) {
			t.Errorf("%s is modified", short(text))
		}
	}
}

// What is handed out is the caller's own.
func TestP9_2NothingIsShared(t *testing.T) {
	s := scopeOf(t, allOfItsPolicy, allOfItsProgram)
	a, b := clones(s.Program, s.Policy)
	f, _ := s.Fun("f")
	f.Params[0].Text = "other"
	h, _, _, _ := s.Hatch("h")
	h.In[0].Text = "other"
	if !reflect.DeepEqual(s.Program, a) || !reflect.DeepEqual(s.Policy, b) {
		t.Error("a look-up's result is the scope's own")
	}
	p := parseProgram(t, "main = x;")
	q := parsePolicy(t, points)
	_, w := scope.Of(p, q)
	w.Program[0].Name = "other"
	if _, w = scope.Of(p, q); tell(w.Program) != "7 1:8 x" {
		t.Error(tell(w.Program))
	}
	_, w = scope.Of(nil, nil)
	w.Program[0].Name = "other"
	if w.Policy[0].Name != "" {
		t.Error("both lists are one")
	}
}

func wantLabel(t *testing.T, what string, got api.Label, ok bool, want string) {
	t.Helper()
	tells := "none"
	if ok {
		tells = strconv.Itoa(got.Conf) + " " + strconv.Itoa(got.Integ)
	} else if got != (api.Label{}) {
		t.Errorf("%s: none, but %v", what, got)
	}
	if tells != want {
		t.Errorf("%s: %s; want %s", what, tells, want)
	}
}

func TestP9_2Labels(t *testing.T) {
	s := scopeOf(t, points, `input x : {high ok}; input y : {low bad}; input all : {low ok};
global g : {low bad} = 1; global l : {high bad} = 2; global all : {high ok} = 3;
channel c : {high bad}; channel d : {low ok}; channel all : {low bad};
exception E; exception all; fun f(p) = p; fun all() = 1; main = let v = 1 in v;`)
	want := map[string][3]string{
		"x": {"1 0", "none", "none"}, "y": {"0 1", "none", "none"},
		"g": {"none", "0 1", "none"}, "l": {"none", "1 1", "none"},
		"c": {"none", "none", "1 1"}, "d": {"none", "none", "0 0"},
		"all": {"0 0", "1 0", "0 1"},
	}
	for _, name := range []string{"E", "f", "p", "v", "main", "low", "ok", "bad", "no", "", "X", "x "} {
		want[name] = [3]string{"none", "none", "none"}
	}
	for name, l := range want {
		x, ok := s.Input(name)
		wantLabel(t, "input "+name, x, ok, l[0])
		x, ok = s.Global(name)
		wantLabel(t, "global "+name, x, ok, l[1])
		x, ok = s.Channel(name)
		wantLabel(t, "channel "+name, x, ok, l[2])
	}
}

func TestP9_2Functions(t *testing.T) {
	p := parseProgram(t, "input x : {high ok}; exception E; fun f(a, b) = a; fun g() = 1; main = f(1, 2);")
	s := resolved(t, p, parsePolicy(t, points+"hatch h = 1 to low in main;"))
	for name, want := range map[string]program.Fun{"f": p.Funs[0], "g": p.Funs[1], "main": p.Main} {
		if f, ok := s.Fun(name); !ok || !reflect.DeepEqual(f, want) {
			t.Errorf("the function %s: %v, %v", name, f, ok)
		}
	}
	for _, name := range []string{"x", "a", "E", "h", "no", "", "Main"} {
		if f, ok := s.Fun(name); ok || !reflect.DeepEqual(f, program.Fun{}) {
			t.Errorf("the function %s: %v, %v", name, f, ok)
		}
	}
}

func TestP9_2Hatches(t *testing.T) {
	s := scopeOf(t, diamonds+`hatch none = 1 + 2 to c1 in main; hatch a = a to c2 in f, main;
hatch bc = b * c to c0 in f; hatch b3 = if b < b then - b else 1 to c3 in main; hatch all = a + b + c + d to c0 in f, f;
hatch c = let_ + 1 to c1 in main;`, `
input a : {c0 i2}; input b : {c1 i0}; input c : {c2 i1}; input d : {c0 i2}; input let_ : {c2 i3}; fun f() = 1; main = 2;`)
	// The numbers of taint go the other way.
	for _, l := range [][]string{
		{"none", "0 3", "1 3"}, {"a", "0 1", "2 1"}, {"bc", "3 2", "0 2"}, {"b3", "1 3", "3 3"}, {"all", "3 0", "0 0"}, {"c", "2 0", "1 0"},
	} {
		h, from, to, ok := s.Hatch(l[0])
		wantLabel(t, "FROM of "+l[0], from, ok, l[1])
		wantLabel(t, "TO of "+l[0], to, ok, l[2])
		if i := slices.IndexFunc(s.Policy.Hatches, func(h policy.Hatch) bool { return h.Text == l[0] }); !reflect.DeepEqual(h, s.Policy.Hatches[i]) {
			t.Errorf("the hatch %s is %v", l[0], h)
		}
	}
	for _, name := range []string{"b", "d", "f", "main", "c0", "", "no"} {
		wantNoHatch(t, s, name)
	}
}

func wantNoHatch(t *testing.T, s *scope.Scope, name string) {
	t.Helper()
	h, from, to, ok := s.Hatch(name)
	if ok || !reflect.DeepEqual(h, policy.Hatch{}) || from != (api.Label{}) || to != (api.Label{}) {
		t.Errorf("the hatch %s: %v, %v, %v, %v", name, h, from, to, ok)
	}
}

func parseExpr(t *testing.T, s string) (*tree.Tree, int) {
	t.Helper()
	x, i, err := expr.Parse(s)
	if err != nil {
		t.Fatal(short(s), err)
	}
	return x, i
}

func TestP9_2Is(t *testing.T) {
	s := scopeOf(t, points+"hatch h = x + 1 to low in main; hatch k = x to low in main; hatch x = 1 to low in main;",
		"input x : {high ok}; input y : {high ok}; main = release h (\n  (x) +1); release k (x); y;")
	same := map[string]string{"h": "\n((x+ 1))", "k": "(x)", "x": "1"}
	for name := range same {
		for other, text := range same {
			x, i := parseExpr(t, text)
			if got := s.Is(name, x, i); got != (name == other) {
				t.Errorf("Is(%s, %s) = %v", name, short(text), got)
			}
			if s.Is(name, nil, i) || s.Is(name, x, -1) || s.Is(name, x, x.Len()) || s.Is(name, x, 1<<40) || s.Is(name, &tree.Tree{}, 0) {
				t.Errorf("no expression is the hatch %s", name)
			}
		}
		for _, text := range []string{"1 + x", "x + 2", "x - 1", "y + 1", "y", "- 1", "x + 1 + 1", "x()"} {
			if x, i := parseExpr(t, text); s.Is(name, x, i) {
				t.Errorf("Is(%s, %s)", name, short(text))
			}
		}
		h, _, _, _ := s.Hatch(name)
		if !s.Is(name, s.Policy.Tree, h.Body) {
			t.Errorf("the hatch %s isn't the same as itself", name)
		}
	}
	for i, n := range s.Program.Each(s.Main.Body) {
		if n.Op == "release" && !s.Is(n.Name, s.Tree, n.Kids[0]) || s.Is("h", s.Tree, i) != (n.Op == "+") {
			t.Errorf("node %d of the program", i)
		}
	}
	for _, name := range []string{"y", "main", "", "no"} {
		for _, text := range []string{"1", "x", "x + 1"} {
			if x, i := parseExpr(t, text); s.Is(name, x, i) || s.Is(name, x, -1) || s.Is(name, nil, 0) {
				t.Errorf("there is no hatch %s", name)
			}
		}
	}
	s = scopeOf(t, points, "main = 1;")
	if s.Is("h", s.Tree, s.Main.Body) || s.Is("h", s.Tree, -1) || s.Is("h", nil, 0) {
		t.Error("there is no hatch")
	}
}

func wantNothing(t *testing.T, what string, s *scope.Scope) {
	t.Helper()
	for _, name := range []string{"x", "g", "c", "f", "main", "h", ""} {
		x, ok := s.Input(name)
		wantLabel(t, what+": input "+name, x, ok, "none")
		x, ok = s.Global(name)
		wantLabel(t, what+": global "+name, x, ok, "none")
		x, ok = s.Channel(name)
		wantLabel(t, what+": channel "+name, x, ok, "none")
		if f, ok := s.Fun(name); ok || !reflect.DeepEqual(f, program.Fun{}) {
			t.Errorf("%s: the function %s: %v, %v", what, name, f, ok)
		}
		wantNoHatch(t, s, name)
		if e, i := parseExpr(t, "x"); s.Is(name, e, i) || s.Is(name, nil, 0) {
			t.Errorf("%s: %s is a hatch's", what, name)
		}
	}
}

func TestP9_2NilScope(t *testing.T) {
	wantNothing(t, "a nil scope", nil)
}

// A Scope that Of didn't make may lack any part of it: its calls answer all the same.
func TestP9_2UnmadeScope(t *testing.T) {
	wantNothing(t, "a zero scope", &scope.Scope{})
	wantNothing(t, "a scope of labels", &scope.Scope{Labels: scope.Labels{Inputs: make([]api.Label, 3), Globals: make([]api.Label, 3), Channels: make([]api.Label, 3)}})
	made := scopeOf(t, points+"hatch h = x to low in f;", "input x : {high ok}; global g : {low ok} = 1; channel c : {low ok}; fun f() = 1; main = 2;")
	s := &scope.Scope{Policy: made.Policy, Lattice: made.Lattice}
	if _, from, to, ok := s.Hatch("h"); !ok || from != (api.Label{}) || to != (api.Label{}) {
		t.Error("without a program, a hatch has no inputs:", from, to, ok)
	}
	reversed := scopeOf(t, "conf high, low; order low < high; integ bad, ok; order ok < bad; attacker ok; hatch h = x to high in main;", "input x : {high bad}; main = 1;")
	s = &scope.Scope{Program: parseProgram(t, "main = 1;"), Policy: reversed.Policy, Lattice: reversed.Lattice}
	if _, from, to, ok := s.Hatch("h"); !ok || from != (api.Label{Conf: 1, Integ: 1}) || to != (api.Label{Integ: 1}) {
		t.Error("a var of a hatch that is no input has no label:", from, to, ok)
	}
	s = &scope.Scope{Program: made.Program}
	if f, ok := s.Fun("f"); !ok || f.Body != made.Funs[0].Body {
		t.Error("without a policy:", f, ok)
	}
	wantNoHatch(t, s, "h")
	for _, call := range []func(string) (api.Label, bool){s.Input, s.Global, s.Channel} {
		for _, name := range []string{"x", "g", "c"} {
			x, ok := call(name)
			wantLabel(t, "without labels: "+name, x, ok, "none")
		}
	}
}

// A scope has the whole program, and its tree.
func TestP9_1Embedded(t *testing.T) {
	s := scopeOf(t, points, "input x : {high ok}; main = x + 1;")
	if n, ok := s.Get(s.Main.Body); !ok || n.Op != "+" || s.Len() != 3 || len(s.Inputs) != 1 || strings.Join(opsOf(s.Tree, s.Main.Body), " ") != "+ var int" {
		t.Error(n, ok, s.Len())
	}
}

func opsOf(t *tree.Tree, i int) (l []string) {
	for _, n := range t.Each(i) {
		l = append(l, n.Op)
	}
	return l
}
