package scope_test

import (
	"math/rand"
	"reflect"
	"slices"
	"sort"
	"strings"
	"testing"

	"whisper/api"
	"whisper/label"
	"whisper/policy"
	"whisper/program"
	"whisper/scope"
	"whisper/show"
	"whisper/tree"
)

// The chapter's words, sentence by sentence, against which Of and the look-ups are held on random programs and policies. Each sentence
// goes through everything again, and the sorting comes last.

// spot is a node of an expression, with what it stands in: the nodes around it, from the outermost one, and which of their parts it is in.
type spot struct {
	api.Node
	around []api.Node
	parts  []int
	params []program.Name
}

func spots(t *tree.Tree, i int, above spot) []spot {
	n, ok := t.Get(i)
	if !ok {
		return nil
	}
	here := above
	here.Node = n
	l := []spot{here}
	for place, k := range n.Kids {
		below := here
		below.around = append(slices.Clone(here.around), n)
		below.parts = append(slices.Clone(here.parts), place)
		l = append(l, spots(t, k, below)...)
	}
	return l
}

// known tells whether a name is that of a parameter, or of a let, that a node may mean.
func (s spot) known(name string) bool {
	for i, n := range slices.Backward(s.around) {
		if n.Op == "let" && n.Name == name && s.parts[i] == 1 {
			return true
		}
		if n.Op == "hole" {
			return false
		}
	}
	return slices.ContainsFunc(s.params, func(n program.Name) bool { return n.Text == name })
}

// words holds a program and a policy, and what the sentences find.
type words struct {
	p    *program.Program
	q    *policy.Policy
	all  []spot // of functions, and of main
	list []api.Diag
}

func (w *words) add(isWrong bool, code api.Errno, name string, at api.Pos) {
	if isWrong {
		w.list = append(w.list, api.Diag{Code: code, At: at, Name: name})
	}
}

// sorted is a list as it is reported, and empties it.
func (w *words) sorted() string {
	sort.SliceStable(w.list, func(i, k int) bool {
		a, b := w.list[i].At, w.list[k].At
		return a.Line < b.Line || a.Line == b.Line && a.Col < b.Col
	})
	s := tell(w.list)
	w.list = nil
	return s
}

// earlier is for the names of one kind.
func (w *words) earlier(l []program.Name) {
	for i, n := range l {
		w.add(named(l[:i], n.Text), 8, n.Text, n.At)
	}
}

func named(l []program.Name, s string) bool {
	return slices.ContainsFunc(l, func(n program.Name) bool { return n.Text == s })
}

func declNames(l []program.Decl) (out []program.Name) {
	for _, d := range l {
		out = append(out, d.Name)
	}
	return out
}

func (w *words) funNames() (out []program.Name) {
	for _, f := range w.p.Funs {
		out = append(out, f.Name)
	}
	return out
}

func (w *words) hatchNames() (out []program.Name) {
	for _, h := range w.q.Hatches {
		out = append(out, h.Name)
	}
	return out
}

func (w *words) ofPolicy() string {
	w.earlier(w.hatchNames())
	for _, h := range w.q.Hatches {
		w.add(!named(w.q.Conf, h.To.Text), 7, h.To.Text, h.To.At)
	}
	for _, h := range w.q.Hatches {
		for _, f := range h.In {
			w.add(f.Text != "main" && !named(w.funNames(), f.Text), 7, f.Text, f.At)
		}
	}
	for _, h := range w.q.Hatches {
		for _, n := range spots(w.q.Tree, h.Body, spot{}) {
			w.add(!strings.Contains(" int true false var neg not + - * = < and or if ", " "+n.Op+" "), 9, n.Op, n.At)
		}
	}
	for _, h := range w.q.Hatches {
		for _, n := range spots(w.q.Tree, h.Body, spot{}) {
			w.add(n.Op == "var" && !named(declNames(w.p.Inputs), n.Name), 7, n.Name, n.At)
		}
	}
	return w.sorted()
}

func (w *words) ofProgram() string {
	p := w.p
	inputs := declNames(p.Inputs)
	for _, l := range [][]program.Name{inputs, declNames(p.Globals), declNames(p.Channels), declNames(p.Exns), w.funNames()} {
		w.earlier(l)
	}
	for _, f := range p.Funs {
		w.earlier(f.Params)
	}
	for _, f := range p.Funs {
		for _, n := range f.Params {
			w.add(named(inputs, n.Text), 8, n.Text, n.At)
		}
	}
	w.nodes("let", 8, func(n spot) bool { return named(inputs, n.Name) })
	for _, d := range slices.Concat(p.Inputs, p.Globals, p.Channels) {
		w.add(!named(w.q.Conf, d.Conf.Text), 7, d.Conf.Text, d.Conf.At)
		w.add(!named(w.q.Integ, d.Integ.Text), 7, d.Integ.Text, d.Integ.At)
	}
	w.nodes("var", 7, func(n spot) bool { return !named(inputs, n.Name) && !n.known(n.Name) })
	for _, l := range []struct {
		ops   string
		known []program.Name
	}{{"get set", declNames(p.Globals)}, {"out", declNames(p.Channels)}, {"raise try", declNames(p.Exns)}, {"release", w.hatchNames()}, {"call", w.funNames()}} {
		w.nodes(l.ops, 7, func(n spot) bool { return !named(l.known, n.Name) })
	}
	w.nodes("call", 9, func(n spot) bool {
		for _, f := range p.Funs {
			if f.Text == n.Name {
				return len(f.Params) != len(n.Kids)
			}
		}
		return false
	})
	holes := map[string]int{}
	w.nodes("hole", 8, func(n spot) bool { holes[n.Name]++; return holes[n.Name] > 1 })
	return w.sorted()
}

func (w *words) nodes(ops string, code api.Errno, isWrong func(spot) bool) {
	for _, n := range w.all {
		if slices.Contains(strings.Fields(ops), n.Op) {
			w.add(isWrong(n), code, n.Name, n.At)
		}
	}
}

func wordsOf(p *program.Program, q *policy.Policy) *words {
	w := &words{p: p, q: q}
	for _, f := range p.Funs {
		w.all = append(w.all, spots(p.Tree, f.Body, spot{params: f.Params})...)
	}
	w.all = append(w.all, spots(p.Tree, p.Main.Body, spot{})...)
	return w
}

// holdWords holds Of, and the look-ups if there is a scope, against the words. It tells whether there is one.
func holdWords(t *testing.T, p *program.Program, q *policy.Policy) bool {
	t.Helper()
	w := wordsOf(p, q)
	ofPolicy, ofProgram := w.ofPolicy(), w.ofProgram()
	wantWrong(t, p, q, ofPolicy, ofProgram)
	s, _ := scope.Of(p, q)
	if s == nil {
		return false
	}
	if s.Program != p || s.Policy != q {
		t.Error("another program, or policy")
	}
	for _, name := range strings.Fields("a b c d x low ok main no") {
		w.lookUp(t, s, name)
	}
	return true
}

func (w *words) lookUp(t *testing.T, s *scope.Scope, name string) {
	t.Helper()
	for _, c := range []struct {
		decls  []program.Decl
		labels []api.Label
		call   func(string) (api.Label, bool)
	}{{w.p.Inputs, s.Labels.Inputs, s.Input}, {w.p.Globals, s.Labels.Globals, s.Global}, {w.p.Channels, s.Labels.Channels, s.Channel}} {
		var want api.Label
		found := false
		for i, d := range c.decls {
			if d.Text == name {
				want, found = w.label(d), true
				if c.labels[i] != want {
					t.Errorf("the label of %s: %v; want %v", name, c.labels[i], want)
				}
			}
		}
		if got, ok := c.call(name); got != want || ok != found || len(c.labels) != len(c.decls) {
			t.Errorf("%s: %v, %v; want %v, %v", name, got, ok, want, found)
		}
	}
	var fun program.Fun
	for _, f := range append(slices.Clone(w.p.Funs), w.p.Main) {
		if f.Text == name {
			fun = f
		}
	}
	if got, ok := s.Fun(name); ok != (fun.Text != "") || !reflect.DeepEqual(got, fun) {
		t.Errorf("the function %s: %v, %v; want %v", name, got, ok, fun)
	}
	w.lookUpHatch(t, s, name)
}

func (w *words) label(d program.Decl) api.Label {
	return api.Label{Conf: slices.IndexFunc(w.q.Conf, func(n program.Name) bool { return n.Text == d.Conf.Text }),
		Integ: slices.IndexFunc(w.q.Integ, func(n program.Name) bool { return n.Text == d.Integ.Text })}
}

func (w *words) lookUpHatch(t *testing.T, s *scope.Scope, name string) {
	t.Helper()
	i := slices.IndexFunc(w.q.Hatches, func(h policy.Hatch) bool { return h.Text == name })
	got, from, to, ok := s.Hatch(name)
	if i < 0 {
		wantNoHatch(t, s, name)
		return
	}
	h := w.q.Hatches[i]
	var lattice label.Lattice
	lattice, _, _ = w.q.Lattice()
	var inputs []api.Label
	for _, n := range spots(w.q.Tree, h.Body, spot{}) {
		for _, d := range w.p.Inputs {
			if n.Op == "var" && n.Name == d.Text {
				inputs = append(inputs, w.label(d))
			}
		}
	}
	wantFrom := lattice.Join(inputs...)
	wantTo := api.Label{Conf: w.label(program.Decl{Conf: h.To}).Conf, Integ: wantFrom.Integ}
	if !ok || !reflect.DeepEqual(got, h) || from != wantFrom || to != wantTo {
		t.Errorf("the hatch %s: %v, %v, %v, %v; want %v, %v, %v", name, got, from, to, ok, h, wantFrom, wantTo)
	}
	for k := range w.p.Len() {
		if s.Is(name, w.p.Tree, k) != tree.Same(w.p.Tree, k, w.q.Tree, h.Body) {
			t.Errorf("Is(%s) at %d", name, k)
		}
	}
}

// chance makes random programs and policies, from few names and few positions.
type chance struct {
	*rand.Rand
	// luck is how many in a hundred choices can't be wrong.
	luck int
}

func (r chance) of(l string) string {
	f := strings.Fields(l)
	return f[r.Intn(len(f))]
}

func (r chance) either(right, others string) string {
	if r.Intn(100) < r.luck {
		return r.of(right)
	}
	return r.of(others)
}

func (r chance) name(s string) program.Name {
	return program.Name{Text: s, At: pos(r.Intn(3), r.Intn(3))}
}

// names is some of these, with luck each once.
func (r chance) names(from string) (l []program.Name) {
	f := strings.Fields(from)
	r.Shuffle(len(f), func(i, k int) { f[i], f[k] = f[k], f[i] })
	for _, s := range f[:r.Intn(len(f)+1)] {
		l = append(l, r.name(r.either(s, from)))
	}
	return l
}

func (r chance) decls(names string) (l []program.Decl) {
	for _, n := range r.names(names) {
		l = append(l, program.Decl{Name: n, Conf: r.name(r.either("low mid high", "ok bad no")), Integ: r.name(r.either("ok bad", "low no"))})
	}
	return l
}

const (
	noNames = "int true false neg not + - * = < and or if"
	allOps  = noNames + " unit pair fst snd seq other var var let let hole hole get set out raise try release call call"
)

// expr adds nodes with Kids anywhere before them, and returns the last one's number.
func (r chance) expr(t *tree.Tree, ops, names string) int {
	last := 0
	for range 1 + r.Intn(8) {
		at := r.name(r.of(names))
		n := api.Node{Op: r.either(ops, allOps), Name: at.Text, At: at.At, Int: int64(r.Intn(2))}
		for range r.Intn(4) {
			if t.Len() > 0 && t.Size(t.Len()-1) < 100 {
				n.Kids = append(n.Kids, t.Len()-1-r.Intn(min(3, t.Len())))
			}
		}
		last, _ = t.Add(n)
	}
	return last
}

func (r chance) program() *program.Program {
	p := &program.Program{Tree: &tree.Tree{}}
	p.Inputs, p.Globals, p.Channels = r.decls("x a"), r.decls("a b"), r.decls("a b c")
	for _, n := range r.names("a b c") {
		p.Exns = append(p.Exns, program.Decl{Name: n})
	}
	for _, n := range r.names("a b") {
		f := program.Fun{Name: n, Params: r.names("b c d x")}
		f.Body = r.expr(p.Tree, noNames+" unit pair let", "a b c d x")
		p.Funs = append(p.Funs, f)
	}
	p.Main = program.Fun{Name: r.name("main")}
	p.Main.Body = r.expr(p.Tree, noNames+" seq var let", "a b c d x main")
	return p
}

func (r chance) policy(t *testing.T) *policy.Policy {
	q := parsePolicy(t, "conf low, mid, high; order low < mid; order mid < high; integ ok, bad; order ok < bad; attacker bad;")
	for _, n := range r.names("a b c") {
		h := policy.Hatch{Name: n, To: r.name(r.either("low mid high", "ok no")), In: r.names("main a")}
		h.Body = r.expr(q.Tree, noNames+" var var var", r.either("x", "a no"))
		q.Hatches = append(q.Hatches, h)
	}
	return q
}

func TestP9Words(t *testing.T) {
	right, wrong := 0, 0
	for seed := range 15000 {
		r := chance{rand.New(rand.NewSource(int64(seed))), 50 + seed%51}
		if holdWords(t, r.program(), r.policy(t)) {
			right++
		} else {
			wrong++
		}
		if t.Failed() {
			t.Fatal("seed", seed)
		}
	}
	if right < 500 || wrong < 500 {
		t.Error("too few of one sort:", right, wrong)
	}
}

// shapes is how many Kids each Op has, so that layer 8 prints it.
var shapes = map[string]int{
	"int": 0, "true": 0, "var": 0, "get": 0, "hole": 0, "raise": 0, "unit": 0, "neg": 1, "fst": 1, "set": 1, "out": 1, "release": 1,
	"seq": 2, "let": 2, "try": 2, "+": 2, "and": 2, "<": 2, "pair": 2, "if": 3, "call": -1,
}

// text is that of a random expression.
func (r chance) text(ops string) string {
	t := &tree.Tree{}
	var put func(deep int) int
	put = func(deep int) int {
		op := r.of(ops)
		if deep == 0 {
			op = r.of("int var")
		}
		n := api.Node{Op: op}
		if strings.Contains("var get hole raise set out release let try call", op) {
			n.Name = r.either("x", "a b c d")
		}
		kids := shapes[op]
		if kids < 0 {
			kids = r.Intn(3)
		}
		for range kids {
			n.Kids = append(n.Kids, put(deep-1))
		}
		i, _ := t.Add(n)
		return i
	}
	s, e := show.Expr(t, put(1+r.Intn(4)))
	if e != api.OK {
		return "0"
	}
	return s
}

func (r chance) points() string {
	return " : {" + r.either("low mid high", "ok no") + " " + r.either("ok bad", "mid no") + "}"
}

// shuffled is a text of some lines.
func (r chance) shuffled(l []string) string {
	r.Shuffle(len(l), func(i, k int) { l[i], l[k] = l[k], l[i] })
	s := ""
	for _, part := range l {
		s += part + " \n"[r.Intn(2):]
	}
	return s
}

func (r chance) programText() string {
	const ops = "int true var var var get hole raise unit neg fst set out release seq let let let try + and < pair if call"
	l := []string{"main = " + r.text(ops) + ";"}
	for _, n := range r.names("x a") {
		l = append(l, "input "+n.Text+r.points()+";")
	}
	for _, n := range r.names("a b") {
		l = append(l, "global "+n.Text+r.points()+" = 1;")
	}
	for _, n := range r.names("a b c") {
		l = append(l, "channel "+n.Text+r.points()+";")
	}
	for _, n := range r.names("a b c") {
		l = append(l, "exception "+n.Text+";")
	}
	for _, n := range r.names("a b c") {
		var params []string
		for _, n := range r.names("b c d x") {
			params = append(params, n.Text)
		}
		l = append(l, "fun "+n.Text+"("+strings.Join(params, ", ")+") = "+r.text(ops)+";")
	}
	return r.shuffled(l)
}

func (r chance) policyText() string {
	l := []string{"conf low, mid, high;", "order low < mid; order mid < high; order ok < bad;", "integ ok, bad;", "attacker bad;"}
	for _, n := range r.names("a b c") {
		body := r.text("int true var var neg + and < if " + r.either("if", "get call let raise"))
		l = append(l, "hatch "+n.Text+" = "+body+" to "+r.either("low mid high", "bad no")+" in main, "+r.either("main", "a b")+";")
	}
	return r.shuffled(l)
}

// The same for texts, where each node has a position of its own.
func TestP9WordsOfTexts(t *testing.T) {
	right := 0
	for seed := range 8000 {
		r := chance{rand.New(rand.NewSource(int64(seed))), 60 + seed%41}
		programText, policyText := r.programText(), r.policyText()
		if holdWords(t, parseProgram(t, programText), parsePolicy(t, policyText)) {
			right++
		}
		if t.Failed() {
			t.Fatal("seed", seed, programText, policyText)
		}
	}
	if right < 100 {
		t.Error("too few without errors:", right)
	}
}
