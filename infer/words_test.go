package infer_test

import (
	"maps"
	"math/rand"
	"regexp"
	"slices"
	"strconv"
	"strings"
	"testing"

	"whisper/api"
	"whisper/infer"
	"whisper/policy"
	"whisper/program"
	"whisper/scope"
	"whisper/tree"
)

// The chapter's words as such, against which Of is held on random programs and policies. A type is a text, in which an open one is a #,
// its number, and a ; behind it.

// table is the chapter's: the Ops, what is fitted, the type, and how many Kids there may be. A number is that Kid, each is each Kid.
const table = `
int get     |             | int  | 0
hole        | each int    | int  | 0 1
true false  |             | bool | 0
unit        |             | unit | 0
neg         | 0 int       | int  | 1
not         | 0 bool      | bool | 1
+ - *       | each int    | int  | 2
= <         | each int    | bool | 2
and or      | each bool   | bool | 2
out set     | 0 int       | unit | 1
var         |             | var  | 0
raise       |             | open | 0
pair        |             | pair | 2
fst         | 0 halves    | 1st  | 1
snd         | 0 halves    | 2nd  | 1
if          | 0 bool, 1 2 | 1    | 3
try         | 0 1         | 0    | 2
release     | 0 hatch     | 0    | 1
call        | each param  | fun  | *
let seq     |             | 1    | 2
`

type row struct {
	fits    [][2]string
	is      string
	howMany []string
}

func rows() map[string]row {
	all := map[string]row{}
	for _, line := range strings.Split(strings.TrimSpace(table), "\n") {
		parts := strings.Split(line, "|")
		r := row{is: strings.TrimSpace(parts[2]), howMany: strings.Fields(parts[3])}
		for _, fit := range strings.Split(parts[1], ",") {
			if f := strings.Fields(fit); len(f) > 0 {
				r.fits = append(r.fits, [2]string{f[0], f[1]})
			}
		}
		for _, op := range strings.Fields(parts[0]) {
			all[op] = r
		}
	}
	return all
}

// words finds types as the chapter's sentences say.
type words struct {
	*scope.Scope
	rows    map[string]row
	opens   int
	became  map[string]string
	hatches map[string]string
	params  map[string][]string
	results map[string]string
}

func (w *words) open() string {
	w.opens++
	return "#" + strconv.Itoa(w.opens) + ";"
}

var openText = regexp.MustCompile("#[0-9]+;")

// now is a type with all that is known by now.
func (w *words) now(a string) string {
	for {
		b := openText.ReplaceAllStringFunc(a, func(o string) string {
			if x, ok := w.became[o]; ok {
				return x
			}
			return o
		})
		if a == b {
			return a
		}
		a = b
	}
}

func (w *words) unify(a, b string) bool {
	a, b = w.now(a), w.now(b)
	switch {
	case a == b:
		return true
	case a[0] == '#' && !strings.Contains(b, a):
		w.became[a] = b
		return true
	case b[0] == '#' && !strings.Contains(a, b):
		w.became[b] = a
		return true
	case a[0] != '(' || b[0] != '(':
		return false
	}
	x, y := parts(a), parts(b)
	return w.unify(x[0], y[0]) && w.unify(x[1], y[1])
}

// parts is the texts of a pair's types.
func parts(pair string) []string {
	deep := 0
	for i, c := range pair {
		switch c {
		case '(':
			deep++
		case ')':
			deep--
		case ',':
			if deep == 1 {
				return []string{pair[1:i], pair[i+2 : len(pair)-1]}
			}
		}
	}
	return nil
}

func wrongAt(n api.Node) *api.Diag {
	return &api.Diag{Code: api.ErrType, At: n.At, Name: n.Op}
}

func (w *words) node(t *tree.Tree, i int, vars map[string]string) (string, *api.Diag) {
	n, _ := t.Get(i)
	var kids []string
	for place, k := range n.Kids {
		inside := vars
		if n.Op == "hole" {
			inside = w.inputs()
		}
		if n.Op == "let" && place == 1 {
			inside = maps.Clone(vars)
			inside[n.Name] = kids[0]
		}
		a, d := w.node(t, k, inside)
		if d != nil {
			return "", d
		}
		kids = append(kids, a)
	}
	r, ok := w.rows[n.Op]
	if !ok || r.howMany[0] != "*" && !slices.Contains(r.howMany, strconv.Itoa(len(kids))) {
		return "", wrongAt(n)
	}
	is := w.means(n, kids, vars)
	for _, f := range r.fits {
		if !w.fit(f[0], f[1], kids, is) {
			return "", wrongAt(n)
		}
	}
	if is[r.is] == "" {
		return "", wrongAt(n)
	}
	return is[r.is], nil
}

// means is what the table's words mean at a node; each of a call's Kids has the word param and its place.
func (w *words) means(n api.Node, kids []string, vars map[string]string) map[string]string {
	is := map[string]string{"int": "int", "bool": "bool", "unit": "unit", "var": vars[n.Name], "open": w.open(), "1st": w.open(), "2nd": w.open()}
	is["halves"] = "(" + is["1st"] + ", " + is["2nd"] + ")"
	for place, k := range kids {
		is[strconv.Itoa(place)] = k
	}
	if len(kids) == 2 {
		is["pair"] = "(" + kids[0] + ", " + kids[1] + ")"
	}
	is["hatch"] = w.hatches[n.Name]
	if params, ok := w.params[n.Name]; ok && len(params) == len(kids) {
		is["fun"] = w.results[n.Name]
		for place, a := range params {
			is["param"+strconv.Itoa(place)] = a
		}
	}
	return is
}

func (w *words) fit(a, b string, kids []string, is map[string]string) bool {
	if a != "each" {
		return is[b] != "" && w.unify(is[a], is[b])
	}
	for place, k := range kids {
		must := b
		if b == "param" {
			must += strconv.Itoa(place)
		}
		if is[must] == "" || !w.unify(k, is[must]) {
			return false
		}
	}
	return true
}

func (w *words) inputs() map[string]string {
	vars := map[string]string{}
	for _, d := range w.Inputs {
		vars[d.Text] = "int"
	}
	return vars
}

func (w *words) allFuns() []program.Fun {
	return append(slices.Clone(w.Funs), w.Main)
}

// show is the strings of types; an open one has the number of those that came before it.
func (w *words) show(l ...string) []string {
	var seen, out []string
	for _, a := range l {
		out = append(out, openText.ReplaceAllStringFunc(w.now(a), func(o string) string {
			if !slices.Contains(seen, o) {
				seen = append(seen, o)
			}
			return "'" + strconv.Itoa(slices.Index(seen, o))
		}))
	}
	return out
}

func (w *words) all() (infer.Types, scope.Wrong) {
	var none, x infer.Types
	var l []string
	for _, h := range w.Policy.Hatches {
		a, d := w.node(w.Policy.Tree, h.Body, w.inputs())
		if d != nil {
			return none, scope.Wrong{Policy: []api.Diag{*d}}
		}
		l = append(l, a)
		if w.hatches[h.Text] == "" {
			w.hatches[h.Text] = a
		}
	}
	for _, f := range w.allFuns() {
		w.params[f.Text] = nil
		for range f.Params {
			w.params[f.Text] = append(w.params[f.Text], w.open())
		}
		w.results[f.Text] = w.open()
	}
	for _, f := range w.allFuns() {
		vars := w.inputs()
		for i, n := range f.Params {
			vars[n.Text] = w.params[f.Text][i]
		}
		a, d := w.node(w.Tree, f.Body, vars)
		if n, _ := w.Get(f.Body); d == nil && !w.unify(a, w.results[f.Text]) {
			d = wrongAt(n)
		}
		if d != nil {
			return none, scope.Wrong{Program: []api.Diag{*d}}
		}
	}
	for _, f := range w.allFuns() {
		params := len(f.Params)
		s := w.show(append(slices.Clone(w.params[f.Text]), w.results[f.Text])...)
		x.Funs = append(x.Funs, infer.Sig{Name: f.Text, Params: s[:params], Result: s[params]})
	}
	x.Hatches = w.show(l...)
	return x, scope.Wrong{}
}

// said is what the words say of a scope.
func said(s *scope.Scope) string {
	w := &words{s, rows(), 0, map[string]string{}, map[string]string{}, map[string][]string{}, map[string]string{}}
	return tell(w.all())
}

// chance makes random programs and policies. What an expression is made for is a type, as a text; small letters stand for open types.
type chance struct {
	*rand.Rand
	luck int // how many in a hundred expressions are made for the type that is wanted
	tree *tree.Tree
	at   api.Pos
	funs []made
	// hatches is the types that these are made for.
	hatches []made
	holes   int
}

// made is a name, and what it was made for.
type made struct {
	name, is string
	params   []made
}

func (r *chance) one(l string) string {
	f := strings.Fields(l)
	return f[r.Intn(len(f))]
}

// wanted is a type, mostly a simple one.
func (r *chance) wanted(simple string) string {
	if r.Intn(5) == 0 {
		return "(" + r.wanted(simple) + ", " + r.wanted(simple) + ")"
	}
	return r.one(simple)
}

func (r *chance) node(op, name string, kids ...int) int {
	r.at.Col++
	i, e := r.tree.Add(api.Node{Op: op, At: r.at, Name: name, Int: int64(r.Intn(3)), Kids: kids})
	if e != api.OK {
		panic(e)
	}
	return i
}

const everyType = "int int int bool bool unit a b"

func (r *chance) expr(want string, vars []made, deep int) int {
	if r.Intn(100) >= r.luck {
		want = r.wanted(everyType)
	}
	if deep == 0 || r.Intn(8) == 0 {
		return r.leaf(want, vars)
	}
	part := func(want string) int { return r.expr(want, vars, deep-1) }
	switch r.Intn(9) {
	case 0:
		return r.let(want, vars, deep)
	case 1:
		return r.node("seq", "", part(r.wanted(everyType)), part(want))
	case 2:
		return r.node("if", "", part("bool"), part(want), part(want))
	case 3:
		return r.node("try", "E", part(want), part(want))
	case 4:
		if r.Intn(2) == 0 {
			return r.node("fst", "", part("("+want+", "+r.wanted(everyType)+")"))
		}
		return r.node("snd", "", part("("+r.wanted(everyType)+", "+want+")"))
	case 5:
		return r.call(want, part)
	case 6:
		if h, ok := r.find(want, r.hatches); ok {
			return r.node("release", h.name, part(want))
		}
	}
	return r.own(want, part)
}

// own is an expression that only those of its type have.
func (r *chance) own(want string, part func(string) int) int {
	switch {
	case want == "int" && r.Intn(4) == 0:
		r.holes++
		return r.node("hole", "hole"+strconv.Itoa(r.holes), r.expr("int", nil, r.Intn(3)))
	case want == "int" && r.Intn(3) == 0:
		return r.node("neg", "", part("int"))
	case want == "int":
		return r.node(r.one("+ - *"), "", part("int"), part("int"))
	case want == "bool" && r.Intn(3) == 0:
		return r.node("not", "", part("bool"))
	case want == "bool" && r.Intn(2) == 0:
		return r.node(r.one("and or"), "", part("bool"), part("bool"))
	case want == "bool":
		return r.node(r.one("= <"), "", part("int"), part("int"))
	case want == "unit":
		return r.node(r.one("out set"), "g", part("int"))
	case want[0] == '(':
		l := parts(want)
		return r.node("pair", "", part(l[0]), part(l[1]))
	}
	return r.node("seq", "", part("unit"), part(want))
}

func (r *chance) leaf(want string, vars []made) int {
	if v, ok := r.find(want, vars); ok && r.Intn(4) > 0 {
		return r.node("var", v.name)
	}
	switch want {
	case "int":
		if r.Intn(3) == 0 {
			return r.node("get", "g")
		}
		if r.Intn(8) == 0 {
			r.holes++
			return r.node("hole", "hole"+strconv.Itoa(r.holes))
		}
		if r.Intn(4) == 0 {
			return r.node("var", r.one("x y"))
		}
		return r.node("int", "")
	case "bool":
		return r.node(r.one("true false"), "")
	case "unit":
		return r.node("unit", "")
	}
	if want[0] == '(' {
		l := parts(want)
		return r.node("pair", "", r.leaf(l[0], vars), r.leaf(l[1], vars))
	}
	return r.node("raise", "E")
}

// find is one of those that are made for a type, or, for luck, any other.
func (r *chance) find(want string, l []made) (made, bool) {
	r.Shuffle(len(l), func(i, k int) { l[i], l[k] = l[k], l[i] })
	for _, m := range l {
		if m.is == want || r.Intn(100) >= r.luck {
			return m, true
		}
	}
	return made{}, false
}

func (r *chance) let(want string, vars []made, deep int) int {
	name, is := r.one("p q r"), r.wanted(everyType)
	inside := []made{{name: name, is: is}}
	for _, v := range vars {
		if v.name != name {
			inside = append(inside, v)
		}
	}
	first := r.expr(is, slices.Clone(vars), deep-1)
	return r.node("let", name, first, r.expr(want, inside, deep-1))
}

func (r *chance) call(want string, part func(string) int) int {
	f, ok := r.find(want, slices.Clone(r.funs))
	if !ok {
		return r.own(want, part)
	}
	var kids []int
	for _, p := range f.params {
		kids = append(kids, part(p.is))
	}
	return r.node("call", f.name, kids...)
}

// scope is that of a random program and a random policy.
func (r *chance) scope(t *testing.T) *scope.Scope {
	p := parseProgram(t, "input x : {low ok}; input y : {low ok}; global g : {low ok} = 1; channel g : {low ok}; exception E; main = 1;")
	q := parsePolicy(t, points)
	r.policy(q)
	r.at, r.tree, p.Tree = api.Pos{Line: 3}, &tree.Tree{}, nil
	for i := range r.Intn(4) {
		f := made{name: "f" + strconv.Itoa(i), is: r.wanted(everyType)}
		for _, n := range strings.Fields("p q r")[:r.Intn(4)] {
			f.params = append(f.params, made{name: n, is: r.wanted(everyType)})
		}
		r.funs = append(r.funs, f)
	}
	for _, f := range slices.Clone(r.funs) {
		fun := program.Fun{Name: program.Name{Text: f.name}}
		for _, m := range f.params {
			fun.Params = append(fun.Params, program.Name{Text: m.name})
		}
		fun.Body = r.expr(f.is, slices.Clone(f.params), 1+r.Intn(3))
		p.Funs = append(p.Funs, fun)
	}
	p.Main.Body = r.expr(r.wanted(everyType), nil, 1+r.Intn(4))
	p.Tree = r.tree
	s, w := scope.Of(p, q)
	if s == nil {
		t.Fatal("no scope:", w)
	}
	return s
}

// policy adds up to 3 hatches, of whose expressions some are of no type.
func (r *chance) policy(q *policy.Policy) {
	for i := range r.Intn(4) {
		body := r.one("1 x x+y x<1 x=y true true+1 not_1 not_(x<1) if_x<1_then_x_else_y if_true_then_x<1_else_false if_1_then_x_else_y x*-y 1_and_true")
		is := "int"
		if !strings.HasPrefix(body, "if_x") && strings.ContainsAny(body, "<=") || body == "true" {
			is = "bool"
		}
		if wrong := strings.HasPrefix(body, "1_") || strings.HasSuffix(body, "_1") || strings.Contains(body, "if_1") || strings.Contains(body, "true+"); wrong && r.Intn(4) > 0 {
			body, is = "x", "int"
		}
		name := "h" + strconv.Itoa(i)
		h := policy.Hatch{Name: program.Name{Text: name}, To: program.Name{Text: "low"}}
		h.Body = put(q.Tree, strings.ReplaceAll(body, "_", " "))
		q.Hatches = append(q.Hatches, h)
		r.hatches = append(r.hatches, made{name: name, is: is})
	}
}

func TestP11_1Words(t *testing.T) {
	right, wrong, open := 0, 0, 0
	for seed := range 30000 {
		r := &chance{Rand: rand.New(rand.NewSource(int64(seed))), luck: 90 + seed%11}
		s := r.scope(t)
		want := said(s)
		if got := tell(infer.Of(s)); got != want {
			t.Fatalf("seed %d: %s; want %s", seed, got, want)
		}
		switch {
		case strings.HasPrefix(want, "wrong"):
			wrong++
		case strings.Contains(want, "'1"):
			open++
		default:
			right++
		}
	}
	if right < 3000 || wrong < 3000 || open < 1000 {
		t.Error("too few of one sort:", right, wrong, open)
	}
}

// Trees that no text is parsed into: any Ops, with any Kids, and names that mean nothing, in a Scope that layer 9 made or not.
func TestP11_1WordsOfAnyTrees(t *testing.T) {
	right, wrong := 0, 0
	for seed := range 30000 {
		r := &chance{Rand: rand.New(rand.NewSource(int64(seed))), luck: 60 + seed%40}
		s := &scope.Scope{Program: &program.Program{}, Policy: &policy.Policy{}}
		s.Inputs = []program.Decl{{Name: program.Name{Text: "x"}}}
		s.Policy.Tree, s.Program.Tree = &tree.Tree{}, &tree.Tree{}
		for _, name := range strings.Fields("h k")[:r.Intn(3)] {
			s.Policy.Hatches = append(s.Policy.Hatches, policy.Hatch{Name: program.Name{Text: name}, Body: r.anyTree(s.Policy.Tree)})
		}
		for _, name := range strings.Fields("f k")[:r.Intn(3)] {
			f := program.Fun{Name: program.Name{Text: name}, Body: r.anyTree(s.Program.Tree)}
			for _, n := range strings.Fields("x f p")[:r.Intn(4)] {
				f.Params = append(f.Params, program.Name{Text: n})
			}
			s.Funs = append(s.Funs, f)
		}
		s.Main = program.Fun{Name: program.Name{Text: "main"}, Body: r.anyTree(s.Program.Tree)}
		want := said(s)
		if got := tell(infer.Of(s)); got != want {
			t.Fatalf("seed %d: %s; want %s", seed, got, want)
		}
		if strings.HasPrefix(want, "wrong") {
			wrong++
		} else {
			right++
		}
	}
	if right < 1000 || wrong < 1000 {
		t.Error("too few of one sort:", right, wrong)
	}
}

// anyTree adds some nodes, and returns the last one's number; or one that isn't there.
func (r *chance) anyTree(t *tree.Tree) int {
	all := rows()
	ops := slices.Sorted(maps.Keys(all))
	last := r.Intn(10) - 3
	for range 1 + r.Intn(5) {
		r.at.Col++
		n := api.Node{Op: "other", At: r.at, Name: r.one("x f h k p")}
		kids := r.Intn(4)
		if r.Intn(100) < r.luck || t.Len() == 0 {
			n.Op = ops[r.Intn(len(ops))]
			if k, e := strconv.Atoi(all[n.Op].howMany[0]); e == nil {
				kids = k
			}
		}
		for range kids {
			if t.Len() > 0 {
				n.Kids = append(n.Kids, t.Len()-1-r.Intn(min(4, t.Len())))
			}
		}
		last, _ = t.Add(n)
	}
	return last
}
