package scope_test

import (
	"strconv"
	"strings"
	"testing"

	"whisper/api"
	"whisper/policy"
	"whisper/program"
	"whisper/scope"
	"whisper/tree"
)

// The tests of P9.1's errors, each named after those that it holds.

// tell is errors as these tests write them: of each one the Code, the position and the name.
func tell(l []api.Diag) string {
	var out []string
	for _, d := range l {
		out = append(out, strings.TrimSpace(strconv.Itoa(int(d.Code))+" "+strconv.Itoa(d.At.Line)+":"+strconv.Itoa(d.At.Col)+" "+d.Name))
	}
	return strings.Join(out, ", ")
}

// wantWrong holds what Of returns where something is wrong, or nothing.
func wantWrong(t *testing.T, p *program.Program, q *policy.Policy, ofPolicy, ofProgram string) {
	t.Helper()
	wantWrongOf(t, "", p, q, ofPolicy, ofProgram)
}

func wantWrongOf(t *testing.T, text string, p *program.Program, q *policy.Policy, ofPolicy, ofProgram string) {
	t.Helper()
	s, w := scope.Of(p, q)
	if tell(w.Policy) != ofPolicy || tell(w.Program) != ofProgram {
		t.Errorf("%s: of the policy: %s; of the program: %s; want %s; %s", short(text), tell(w.Policy), tell(w.Program), ofPolicy, ofProgram)
	}
	if (s == nil) != (ofPolicy+ofProgram != "") {
		t.Errorf("%s: the scope is %v", short(text), s)
	}
}

// wantPolicy is for what stands behind the points of a policy, on its own line.
func wantPolicy(t *testing.T, items, want string) {
	t.Helper()
	p := parseProgram(t, "input x : {high ok}; input y : {low bad}; global g : {low ok} = 1; channel c : {low ok}; exception E; fun f(a) = a; fun z() = 1; main = let v = 1 in v;")
	wantWrongOf(t, items, p, parsePolicy(t, points+items), want, "")
}

// wantProgram is for a program, with a policy of one hatch.
func wantProgram(t *testing.T, s, want string) {
	t.Helper()
	wantWrongOf(t, s, parseProgram(t, s), parsePolicy(t, points+"hatch h = 1 to low in main;"), "", want)
}

func TestP9_1Example(t *testing.T) {
	wantProgram(t, "main = x;", "7 1:8 x")
}

func TestP9_1Nil(t *testing.T) {
	p, q := parseProgram(t, "input x : {no no}; main = a;"), parsePolicy(t, "conf a, a; integ b; attacker b;")
	wantWrong(t, nil, q, "1 0:0", "1 0:0")
	wantWrong(t, p, nil, "1 0:0", "1 0:0")
	wantWrong(t, nil, nil, "1 0:0", "1 0:0")
	wantWrong(t, nil, parsePolicy(t, points), "1 0:0", "1 0:0")
	wantWrong(t, parseProgram(t, "main = 1;"), nil, "1 0:0", "1 0:0")
}

// Whatever else is wrong, a lattice's error is the only one.
func TestP9_1Lattice(t *testing.T) {
	right := parseProgram(t, "main = 1;")
	bad := parseProgram(t, "input x : {no no}; input x : {low ok}; main = a; !g; hole m; hole m;")
	for s, want := range map[string]string{
		"conf a, a; integ b; attacker b;":                                           "8 1:9 a",
		"conf a; integ b, b; attacker b;":                                           "8 1:18 b",
		"conf a; integ b, a; attacker b;":                                           "8 1:18 a",
		"conf a; integ b; order a < c; attacker b;":                                 "7 1:28 c",
		"conf a; integ b; order c < b; attacker b;":                                 "7 1:24 c",
		"conf a; integ b; order a < b; attacker b;":                                 "9 1:28 b",
		"conf a; integ b; order b < a; attacker b;":                                 "9 1:24 b",
		"conf a, c; integ b; attacker b;":                                           "2 1:6",
		"conf a; integ b, c; attacker b;":                                           "2 1:15",
		"conf a, c; order a < c; order c < a; integ b; attacker b;":                 "2 1:6",
		"integ b; attacker b;":                                                      "1 1:1",
		"conf a; attacker b;":                                                       "1 1:1",
		"conf a; integ b; attacker a;":                                              "7 1:27 a",
		"conf a; integ b; attacker c;":                                              "7 1:27 c",
		"conf a, c; integ b, d; attacker c;":                                        "2 1:6",
		"attacker\nx;":                                                              "1 1:1",
		"conf low, high; order low < high; integ ok;\norder ok < ok; attacker low;": "7 2:25 low",
	} {
		more := s + " hatch h = u + !g to no in z, z; hatch h = () to no in main;"
		for _, p := range []*program.Program{right, bad} {
			wantWrongOf(t, s, p, parsePolicy(t, s), want, "")
			wantWrongOf(t, more, p, parsePolicy(t, more), want, "")
		}
	}
}

func TestP9_1HatchTwice(t *testing.T) {
	wantPolicy(t, "hatch a = x to low in main; hatch b = x to low in main;", "")
	wantPolicy(t, "hatch a = x to low in main; hatch a = x to low in main;", "8 2:35 a")
	wantPolicy(t, "hatch a = 1 to low in main; hatch b = 1 to low in main;\nhatch a = 2 to low in f; hatch a = 3 to low in f; hatch b = 3 to low in f;", "8 3:7 a, 8 3:32 a, 8 3:57 b")
	wantPolicy(t, "hatch x = x to low in main; hatch f = 1 to low in f; hatch low = 1 to low in main; hatch g = 1 to low in main;", "") // names of other kinds
}

func TestP9_1HatchPoint(t *testing.T) {
	wantPolicy(t, "hatch a = x to low in main; hatch b = x to high in main;", "")
	wantPolicy(t, "hatch a = x to no in main; hatch b = x to ok in main; hatch c = 1 to bad in main; hatch d = 1 to x in main;", "7 2:16 no, 7 2:43 ok, 7 2:70 bad, 7 2:98 x")
}

func TestP9_1HatchFunctions(t *testing.T) {
	wantPolicy(t, "hatch a = x to low in main, f, z, f, main;", "")
	wantPolicy(t, "hatch a = x to low in no;", "7 2:23 no")
	wantPolicy(t, "hatch a = x to low in f, no, main, x, no; hatch b = 1 to low in E, g, c, a, v, low, z;", "7 2:26 no, 7 2:36 x, 7 2:39 no, 7 2:65 E, 7 2:68 g, 7 2:71 c, 7 2:74 a, 7 2:77 v, 7 2:80 low")
}

func TestP9_1HatchOps(t *testing.T) {
	for _, s := range []string{"1", "true", "false", "x", "- 1", "not true", "1 + 2", "1 - 2", "1 * 2", "1 = 2", "1 < 2", "true and false", "true or false", "if true then 1 else 2",
		"if not (x + y * - 2 - 1 < 3 and y = 4 or false) then true else 2 = 3"} {
		wantPolicy(t, "hatch a = "+s+" to low in main;", "")
	}
	for s, want := range map[string]string{
		"let l = 1 in 2":       "9 2:11 let",
		"try 1 with E -> 2":    "9 2:11 try",
		"raise E":              "9 2:11 raise",
		"out c 1":              "9 2:11 out",
		"g := 1":               "9 2:11 set",
		"1; 2":                 "9 2:12 seq",
		"fst 1":                "9 2:11 fst",
		"snd 1":                "9 2:11 snd",
		"! g":                  "9 2:11 get",
		"hole m":               "9 2:11 hole",
		"release a (1)":        "9 2:11 release",
		"()":                   "9 2:11 unit",
		"(1, 2)":               "9 2:11 pair",
		"f(1)":                 "9 2:11 call",
		"f()":                  "9 2:11 call",
		"let x = !no in no(x)": "9 2:11 let, 9 2:19 get, 9 2:26 call",
		"fst (1, hole a)":      "9 2:11 fst, 9 2:15 pair, 9 2:19 hole",
		"1 + (raise no) * ()":  "9 2:16 raise, 9 2:28 unit",
	} {
		wantPolicy(t, "hatch a = "+s+" to low in main;", want)
	}
	n := api.Node{Op: "other", Name: "name", At: pos(4, 5)} // one that layer 5 doesn't know
	q := parsePolicy(t, points)
	i, _ := q.Add(n)
	q.Hatches = []policy.Hatch{{Name: program.Name{Text: "h"}, Body: i, To: program.Name{Text: "low"}}}
	wantWrong(t, parseProgram(t, "main = 1;"), q, "9 4:5 other", "")
}

func TestP9_1HatchVars(t *testing.T) {
	wantPolicy(t, "hatch a = if x < y then x else y to low in main;", "")
	wantPolicy(t, "hatch a = if g < c then E else f + a + v + no * low to low in main;", "7 2:14 g, 7 2:18 c, 7 2:25 E, 7 2:32 f, 7 2:36 a, 7 2:40 v, 7 2:44 no, 7 2:49 low")
	wantPolicy(t, "hatch a = let l = l in l + x to low in main;", "9 2:11 let, 7 2:19 l, 7 2:24 l") // a let binds nothing there
	wantPolicy(t, "hatch a = 1 to low in main; hatch b = u to low in main; hatch c = u to low in main;", "7 2:39 u, 7 2:67 u")
}

func TestP9_1DeclaredTwice(t *testing.T) {
	wantProgram(t, "input a : {low ok}; global a : {low ok} = 1; channel a : {low ok}; exception a; fun a() = 1; fun h() = 1; fun low() = 1; main = 1;", "") // one of each kind
	wantProgram(t, "input a : {low ok}; input b : {low ok}; input a : {low ok}; input b : {low ok}; input a : {low ok}; main = 1;", "8 1:47 a, 8 1:67 b, 8 1:87 a")
	wantProgram(t, "global a : {low ok} = 1; global b : {low ok} = 1; global a : {low ok} = 2; global a : {low ok} = - 1; main = 1;", "8 1:58 a, 8 1:83 a")
	wantProgram(t, "channel a : {low ok}; channel b : {low ok}; channel a : {low ok}; channel a : {high bad}; main = 1;", "8 1:53 a, 8 1:75 a")
	wantProgram(t, "exception a; exception b; exception a; exception a; main = 1;", "8 1:37 a, 8 1:50 a")
	wantProgram(t, "fun a() = 1; fun b() = 1; fun a(c) = c; fun a() = 1; main = 1;", "8 1:31 a, 8 1:45 a")
	wantProgram(t, "fun f(a, b, a, a, b) = 1; fun g(a, b) = a; main = 1;", "8 1:13 a, 8 1:16 a, 8 1:19 b")
	wantProgram(t, "fun f(f, g, E, h, low, a) = f; fun g(a) = a; global a : {low ok} = 1; exception E; main = 1;", "") // a parameter of other kinds' names
}

func TestP9_1NameOfAnInput(t *testing.T) {
	wantProgram(t, "fun f(x, y) = y; input x : {low ok}; main = let x = 1 in 2;", "8 1:7 x, 8 1:45 x")
	wantProgram(t, "input x : {low ok}; fun f(a) = let a = a in let a = a in 1; main = let a = x in let a = a in a;", "") // lets, and parameters, may hide one another
	wantProgram(t, "input x : {low ok}; fun f() = 1 + (let y = let x = 1 in 2 in let x = 3 in x); main = 1;", "8 1:44 x, 8 1:62 x")
	wantProgram(t, "input x : {low ok}; fun f(x, a, x) = a; main = 1;", "8 1:27 x, 8 1:33 x, 8 1:33 x") // an earlier parameter's, and an input's
	wantProgram(t, "global x : {low ok} = 1; channel y : {low ok}; fun f(x) = let y = 1 in y; main = 1;", "")
}

func TestP9_1Points(t *testing.T) {
	for _, c := range [][2]string{{"input", ""}, {"global", " = 1"}, {"channel", ""}} {
		for points, want := range map[string]string{
			"low ok": "", "high bad": "", "no ok": "7 2:2 no", "low no": "7 3:1 no", "no no": "7 2:2 no, 7 3:1 no", "ok ok": "7 2:2 ok",
			"low low": "7 3:1 low", "bad high": "7 2:2 bad, 7 3:1 high", "x low": "7 2:2 x, 7 3:1 low", "h h": "7 2:2 h, 7 3:1 h",
		} {
			wantProgram(t, c[0]+" x :\n{"+strings.Replace(points, " ", "\n", 1)+"}"+c[1]+"; main = 1;", want)
		}
	}
	wantProgram(t, "exception E; main = 1;", "") // it has none
}

func TestP9_1Vars(t *testing.T) {
	const decls = "input x : {low ok}; global g : {low ok} = 1; channel c : {low ok}; exception E; fun f(p, q) = 1;\n"
	for s, want := range map[string]string{
		"fun k(a, b) = a + b + x; main = x;":                "",
		"fun k(a, b) = p; fun l(b) = a; main = a;":          "7 2:15 p, 7 2:29 a, 7 2:39 a",
		"fun k() = g; fun l() = c; main = E;":               "7 2:11 g, 7 2:24 c, 7 2:34 E",
		"fun k() = k; fun l() = h; main = low + no;":        "7 2:11 k, 7 2:24 h, 7 2:34 low, 7 2:40 no",
		"main = let a = 1 in a; a;":                         "",
		"main = (let a = 1 in a); a;":                       "7 2:26 a",
		"main = let a = a in a;":                            "7 2:16 a",
		"main = let a = let b = 1 in b in a + b;":           "7 2:38 b",
		"main = let a = 1 in let b = a in a + b;":           "",
		"main = let a = 1 in let a = a in a;":               "",
		"main = (let a = 1 in let a = 2 in a) + a;":         "7 2:40 a",
		"main = let a = 1 in (let a = 2 in a) + a;":         "",
		"main = let a = 1 in f(a, if a < x then a else b);": "7 2:47 b",
		"fun k(a) = (let b = a in b) + b; main = 1;":        "7 2:31 b",
		"fun k(a) = (let a = a in a) + a; main = 1;":        "",
		"fun k(a) = 1; fun l() = a; main = a;":              "7 2:25 a, 7 2:35 a",
		"fun k(a) = let b = 1 in 1; main = b;":              "7 2:35 b",
		"main = try a with E -> raise E; (a, fst a);":       "7 2:12 a, 7 2:34 a, 7 2:41 a",
		"main = g := a; out c - a; release h (not a); !g;":  "7 2:13 a, 7 2:24 a, 7 2:42 a",
	} {
		wantProgram(t, decls+s, want)
	}
}

func TestP9_1Uses(t *testing.T) {
	const decls = "input x : {low ok}; global g : {low ok} = 1; channel c : {low ok}; exception E; fun f() = 1;\n"
	for s, want := range map[string]string{
		"main = !g; g := 1; out c 1; try raise E with E -> 1; release h (1); f();": "",
		"main = !x; !c; !E; !f; !h; !low; !no; !main_;":                            "7 2:8 x, 7 2:12 c, 7 2:16 E, 7 2:20 f, 7 2:24 h, 7 2:28 low, 7 2:34 no, 7 2:39 main_",
		"main = x := 1; c := 1; E := 1; f := 1; h := 1; no := 1;":                  "7 2:8 x, 7 2:16 c, 7 2:24 E, 7 2:32 f, 7 2:40 h, 7 2:48 no",
		"main = out x 1; out g 1; out E 1; out f 1; out h 1; out no 1;":            "7 2:8 x, 7 2:17 g, 7 2:26 E, 7 2:35 f, 7 2:44 h, 7 2:53 no",
		"main = raise x; raise g; raise c; raise f; raise h; raise no;":            "7 2:8 x, 7 2:17 g, 7 2:26 c, 7 2:35 f, 7 2:44 h, 7 2:53 no",
		"main = try 1 with g -> 1; try 1 with no -> raise no;":                     "7 2:8 g, 7 2:27 no, 7 2:44 no",
		"main = release x (1); release f (1); release no (1);":                     "7 2:8 x, 7 2:23 f, 7 2:38 no",
		"main = x(); g(); c(); E(); h(); no(1);":                                   "7 2:8 x, 7 2:13 g, 7 2:18 c, 7 2:23 E, 7 2:28 h, 7 2:33 no",
		"fun k(a) = (let b = a in !b + !a; out a 1; a(); b(b)); main = 1;":         "7 2:26 b, 7 2:31 a, 7 2:35 a, 7 2:44 a, 7 2:49 b",
		"main = no := !no + no(no);":                                               "7 2:8 no, 7 2:14 no, 7 2:20 no, 7 2:23 no",
	} {
		wantProgram(t, decls+s, want)
	}
}

// Only a text can't have it: a call of main. That is no function.
func TestP9_1CallOfMain(t *testing.T) {
	p := parseProgram(t, "main = 1;")
	p.Main.Body, _ = p.Add(api.Node{Op: "call", Name: "main", At: pos(2, 3)})
	wantWrong(t, p, parsePolicy(t, points+"hatch h = 1 to low in main;"), "", "7 2:3 main")
}

func TestP9_1Calls(t *testing.T) {
	const decls = "fun none() = 1; fun one(a) = 1; fun two(a, b) = 1;\n"
	for s, want := range map[string]string{
		"main = none(); one(1); two(1, 2);":                                   "",
		"main = none(1); none(1, 2);":                                         "9 2:8 none, 9 2:17 none",
		"main = one(); one(1, 2); one((1, 2));":                               "9 2:8 one, 9 2:15 one",
		"main = two(); two(1); two(1, 2, 3); two((1, 2));":                    "9 2:8 two, 9 2:15 two, 9 2:23 two, 9 2:37 two",
		"fun k(a) = k(a) + k() + late(1); fun late(a, b) = k(1); main = k();": "9 2:19 k, 9 2:25 late, 9 2:64 k",
		"fun one() = 1; fun one(a, b) = 1; main = one(); one(1); one(1, 2);":  "8 2:5 one, 8 2:20 one, 9 2:42 one, 9 2:57 one", // the first one's parts
		"fun d(a, a) = 1; main = d(1); d(1, 2);":                              "8 2:10 a, 9 2:25 d",
		"main = one(none(1), two(one()));":                                    "9 2:8 one, 9 2:12 none, 9 2:21 two, 9 2:25 one",
	} {
		wantProgram(t, decls+s, want)
	}
}

func TestP9_1Holes(t *testing.T) {
	for s, want := range map[string]string{
		"main = hole a + hole b;":                                     "",
		"main = hole a + hole b + hole a + hole a;":                   "8 1:26 a, 8 1:35 a",
		"fun f() = hole a; fun g() = hole b; main = hole c;":          "",
		"fun f() = hole a; fun g() = hole a; main = hole a;":          "8 1:29 a, 8 1:44 a",
		"main = hole a; fun f() = hole a; fun g() = hole a;":          "8 1:8 a, 8 1:44 a", // main comes last, wherever it stands
		"fun f(a) = hole a; main = let b = hole b in b;":              "",
		"input a : {low ok}; exception b; main = hole a; hole b;":     "",
		"fun f() = let a = hole m in hole m; main = hole n * hole n;": "8 1:29 m, 8 1:53 n",
	} {
		wantProgram(t, s, want)
	}
	p := parseProgram(t, "main = hole a; 1;")
	q := parsePolicy(t, points+"hatch h = hole a to low in main;") // a policy's holes aren't the program's
	wantWrong(t, p, q, "9 2:11 hole", "")
}

// filler copies a program's expressions, and gives parts to its holes that have none, as layer 19 will: each of a part's nodes is at
// the hole. A text with marks before it keeps its own positions instead, from line 100 on, or 200.
type filler struct {
	*testing.T
	to    *tree.Tree
	fills map[string]string
}

func filled(t *testing.T, p *program.Program, fills map[string]string) *program.Program {
	t.Helper()
	f := filler{t, &tree.Tree{}, fills}
	to := *p
	to.Tree, to.Funs = f.to, nil
	for _, one := range p.Funs {
		one.Body = f.copy(p.Tree, one.Body)
		to.Funs = append(to.Funs, one)
	}
	to.Main.Body = f.copy(p.Tree, p.Main.Body)
	return &to
}

func (f filler) copy(from *tree.Tree, i int) int {
	n, _ := from.Get(i)
	text, ok := f.fills[n.Name]
	if n.Op == "hole" && len(n.Kids) == 0 && ok {
		x, k := parseExpr(f.T, strings.TrimLeft(text, "^"))
		n.Kids = []int{f.part(x, k, n.At, strings.Count(text, "^"))}
		return f.add(n)
	}
	for place, k := range n.Kids {
		n.Kids[place] = f.copy(from, k)
	}
	return f.add(n)
}

func (f filler) part(from *tree.Tree, i int, at api.Pos, marks int) int {
	n, _ := from.Get(i)
	for place, k := range n.Kids {
		n.Kids[place] = f.part(from, k, at, marks)
	}
	if marks > 0 {
		at = pos(n.At.Line+100*marks-1, n.At.Col)
	}
	n.At = at
	return f.add(n)
}

func (f filler) add(n api.Node) int {
	i, e := f.to.Add(n)
	if e != api.OK {
		f.Fatal(e)
	}
	return i
}

// In a hole's part there are only inputs, and lets of that part.
func TestP9_1HoleParts(t *testing.T) {
	p := parseProgram(t, "input x : {low ok}; global g : {low ok} = 1; channel c : {low ok}; exception E;\nfun f(a) = let b = a in hole m + a + b;\nmain = let b = 1 in (hole n; b + d);")
	q := parsePolicy(t, points+"hatch h = 1 to low in main;")
	for _, c := range [][3]string{
		{"x", "^x", "7 3:34 d"},
		{"a", "^1", "7 2:25 a, 7 3:34 d"},
		{"b", "^1", "7 2:25 b, 7 3:34 d"},
		{"1", "^b", "7 3:34 d, 7 100:1 b"},
		{"1", "^let d = 1 in d; let b = d in b + x", "7 3:34 d"}, // what is known in it isn't known behind it
		{"1", "^(let d = 1 in d); d", "7 3:34 d, 7 100:19 d"},
		{"1", "^let b = b in b", "7 3:34 d, 7 100:9 b"},
		{"1", "^let x = 1 in x", "7 3:34 d, 8 100:1 x"},
		{"1", "^!g; g := 1; out c 1; try raise E with E -> release h (1); f(1)", "7 3:34 d"},
		{"1", "^!a; a := 1; out a 1; try raise a with k -> release a (1); a(1); f()",
			"7 3:34 d, 7 100:1 a, 7 100:5 a, 7 100:13 a, 7 100:22 k, 7 100:26 a, 7 100:44 a, 7 100:59 a, 9 100:65 f"},
		{"1", "^hole m", "7 3:34 d, 8 100:1 m"},
		{"hole n", "1", "8 3:22 n, 7 3:34 d"},
		{"hole o; hole o", "hole o", "8 2:25 o, 8 3:22 o, 7 3:34 d"},
		{"hole m", "hole n", "8 2:25 m, 8 3:22 n, 7 3:34 d"}, // the outer one is the earlier one
		{"v := !w + (let x = u in f()); out v 1", "1", "8 2:25 x, 7 2:25 u, 7 2:25 v, 7 2:25 w, 7 2:25 v, 9 2:25 f, 7 3:34 d"},
	} {
		wantWrongOf(t, c[0]+" | "+c[1], filled(t, p, map[string]string{"m": c[0], "n": c[1]}), q, "", c[2])
	}
}

// In a hole's part within another one's, there are only the lets of the inner part.
func TestP9_1HolesWithinHoles(t *testing.T) {
	p := parseProgram(t, "input x : {low ok}; fun f(a) = let b = 1 in hole m; main = 1;")
	q := parsePolicy(t, points)
	for _, c := range [][3]string{
		{"^let c = 1 in hole n + c", "^^let d = 1 in d + x", ""},
		{"^let c = 1 in (hole n; let e = c in e)", "^^let d = 1 in a + b + c + d + e", "7 200:14 a, 7 200:18 b, 7 200:22 c, 7 200:30 e"},
		{"^(let c = hole n in c); d + c", "^^let d = 1 in d", "7 100:24 d, 7 100:28 c"},
		{"^let c = 1 in (hole n + c + b)", "^^let c = 1 in c", "7 100:28 b"},
		{"^hole n + (hole m; hole o)", "^^hole o", "8 100:11 m, 8 100:19 o"},
	} {
		outer := filled(t, p, map[string]string{"m": c[0]})
		wantWrongOf(t, c[0]+" | "+c[1], filled(t, outer, map[string]string{"n": c[1]}), q, "", c[2])
	}
}

// Line by line, and columns by their numbers; neither kinds nor the order of declarations count.
func TestP9_1Order(t *testing.T) {
	wantProgram(t, "main = a;\n  !b; exception E; exception\nE; fun f(c, c, c) = out no\n 1; input i : {low no}; input\ti : {no ok};",
		"7 1:8 a, 7 2:3 b, 8 3:1 E, 8 3:13 c, 8 3:16 c, 7 3:21 no, 7 4:20 no, 8 4:31 i, 7 4:36 no")
	p := &program.Program{Tree: &tree.Tree{}}
	at := []api.Pos{pos(2, 1), pos(1, 10), pos(10, 1), pos(1, 9), pos(1, 1), pos(-1, 5), pos(2, 10), pos(0, 0), pos(2, 9), pos(1<<40, 3), pos(9, 99), pos(1, -4)}
	for _, a := range at {
		p.Exns = append(p.Exns, program.Decl{Name: program.Name{Text: "E", At: a}})
	}
	q := parsePolicy(t, points)
	for _, a := range at {
		q.Hatches = append(q.Hatches, policy.Hatch{Name: program.Name{Text: "E", At: a}, Body: -1, To: program.Name{Text: "low"}})
	}
	want := "8 -1:5 E, 8 0:0 E, 8 1:-4 E, 8 1:1 E, 8 1:9 E, 8 1:10 E, 8 2:9 E, 8 2:10 E, 8 9:99 E, 8 10:1 E, 8 1099511627776:3 E"
	wantWrong(t, p, q, want, want)
}

// atOnePosition is a program all of whose names are wrong in each way, against the order in which the chapter says so.
func atOnePosition(t *testing.T) *program.Program {
	at := pos(3, 4)
	name := func(s string) program.Name { return program.Name{Text: s, At: at} }
	decl := func(s, conf, integ string) program.Decl {
		return program.Decl{Name: name(s), Conf: name(conf), Integ: name(integ)}
	}
	p := &program.Program{Tree: &tree.Tree{}, Main: program.Fun{Name: name("main")}}
	p.Exns = []program.Decl{decl("e", "", ""), decl("e", "", "")}
	p.Channels = []program.Decl{decl("c", "low", "ok"), decl("c", "c1", "c2")}
	p.Globals = []program.Decl{decl("g", "g1", "g2"), decl("g", "low", "ok")}
	p.Inputs = []program.Decl{decl("i", "i1", "i2"), decl("j", "low", "ok"), decl("i", "low", "ok")}
	add := func(op, name string, kids ...int) int {
		i, e := p.Add(api.Node{Op: op, Name: name, At: at, Kids: kids})
		if e != api.OK {
			t.Fatal(e)
		}
		return i
	}
	x := add("hole", "h2", add("hole", "h2"))
	for _, n := range []api.Node{{Op: "let", Name: "j"}, {Op: "var", Name: "v"}, {Op: "get", Name: "g3"}, {Op: "out", Name: "c3"},
		{Op: "raise", Name: "e3"}, {Op: "release", Name: "r3"}, {Op: "call", Name: "f3"}, {Op: "call", Name: "f"}, {Op: "hole", Name: "h2"}} {
		x = add("seq", "", add(n.Op, n.Name), x)
		x = add("seq", "", x, add(n.Op, n.Name+n.Op[:1]))
	}
	y := add("set", "g3")
	for _, n := range []api.Node{{Op: "try", Name: "e4"}, {Op: "call", Name: "f"}, {Op: "hole", Name: "h1"}, {Op: "hole", Name: "h1"}} {
		y = add("seq", "", add(n.Op, n.Name), y)
	}
	p.Funs = []program.Fun{{Name: name("f"), Params: []program.Name{name("a"), name("j"), name("a")}, Body: y}, {Name: name("f"), Body: x}}
	p.Main.Body = add("var", "m")
	return p
}

func TestP9_1OnePosition(t *testing.T) {
	q := parsePolicy(t, points+"hatch r = 1 to low in main;")
	want := []string{
		"8 i", "8 g", "8 c", "8 e", "8 f", "8 a", // twice
		"8 j", "8 j", // of an input: a parameter, a let
		"7 i1", "7 i2", "7 g1", "7 g2", "7 c1", "7 c2", // points
		"7 v", "7 vv", "7 m", // vars, the functions' in order, then main's
		"7 g3", "7 g3", "7 g3g", "7 c3", "7 c3o", "7 e4", "7 e3", "7 e3r", "7 r3", "7 r3r", "7 f3", "7 f3c", "7 fc", // no global, channel, exception, hatch, function
		"9 f", "9 f", // calls
		"8 h1", "8 h2", "8 h2", // holes
	}
	var l []string
	for _, s := range want {
		l = append(l, s[:2]+"3:4 "+s[2:])
	}
	wantWrong(t, atOnePosition(t), q, "", strings.Join(l, ", "))
}

func TestP9_1OnePositionOfAPolicy(t *testing.T) {
	at := pos(5, 6)
	name := func(s string) program.Name { return program.Name{Text: s, At: at} }
	q := parsePolicy(t, points)
	v, _ := q.Add(api.Node{Op: "var", Name: "v", At: at})
	get, _ := q.Add(api.Node{Op: "get", Name: "g", At: at, Kids: []int{v, v}})
	x, _ := q.Add(api.Node{Op: "+", At: at, Kids: []int{v, get}})
	q.Hatches = []policy.Hatch{
		{Name: name("h"), Body: x, To: name("t1"), In: []program.Name{name("f1"), name("main"), name("f2")}},
		{Name: name("k"), Body: get, To: name("t2"), In: []program.Name{name("f3")}},
		{Name: name("h"), Body: v, To: name("low"), In: []program.Name{name("f4")}},
		{Name: name("k"), Body: -1, To: name("t3")},
	}
	want := "8 h, 8 k, 7 t1, 7 t2, 7 t3, 7 f1, 7 f2, 7 f3, 7 f4, 9 get, 9 get, 7 v, 7 v, 7 v, 7 v, 7 v, 7 v"
	for _, code := range []string{"7", "8", "9"} {
		want = strings.ReplaceAll(want, code+" ", code+" 5:6 ")
	}
	wantWrong(t, parseProgram(t, "main = 1;"), q, want, "")
}

// Both are reported, each by itself.
func TestP9_1PolicyAndProgram(t *testing.T) {
	q := parsePolicy(t, points+"hatch h = y to no in f; hatch h = 1 to low in main;")
	p := parseProgram(t, "main = y; release h (1); release k (1);")
	wantWrong(t, p, q, "7 2:11 y, 7 2:16 no, 7 2:22 f, 8 2:31 h", "7 1:8 y, 7 1:26 k")
}

// What Parse didn't make may lack trees, and a main.
func TestP9_1WithoutTrees(t *testing.T) {
	q := parsePolicy(t, points)
	q.Tree = nil
	q.Hatches = []policy.Hatch{{Name: program.Name{Text: "h"}, Body: 3, To: program.Name{Text: "low"}, In: []program.Name{{Text: "main"}}}}
	p := &program.Program{Funs: []program.Fun{{Name: program.Name{Text: "f"}, Body: 2}}}
	s := resolved(t, p, q)
	if _, from, to, ok := s.Hatch("h"); !ok || from != (api.Label{}) || to != (api.Label{}) || s.Is("h", parseProgram(t, "main = 1;").Tree, 0) {
		t.Error(from, to, ok)
	}
	wantWrong(t, p, &policy.Policy{}, "1 1:1", "")
	p.Tree, p.Main.Body = &tree.Tree{}, -7
	wantWrong(t, p, q, "", "")
}

// A node that stands at several places is visited at each of them.
func TestP9_1SharedNodes(t *testing.T) {
	p := &program.Program{Tree: &tree.Tree{}}
	v, _ := p.Add(api.Node{Op: "var", Name: "v", At: pos(1, 1)})
	h, _ := p.Add(api.Node{Op: "hole", Name: "h", At: pos(1, 2)})
	both, _ := p.Add(api.Node{Op: "pair", Kids: []int{v, h}})
	let, _ := p.Add(api.Node{Op: "let", Name: "v", At: pos(1, 3), Kids: []int{both, both}})
	p.Main.Body = let
	q := parsePolicy(t, points)
	wantWrong(t, p, q, "", "7 1:1 v, 8 1:2 h")
	p.Funs = []program.Fun{{Name: program.Name{Text: "f"}, Body: both, Params: []program.Name{{Text: "v"}}}}
	wantWrong(t, p, q, "", "7 1:1 v, 8 1:2 h, 8 1:2 h")
}

// What may not be long is, or deep.
func TestP9_1MuchOfIt(t *testing.T) {
	p := &program.Program{Tree: &tree.Tree{}}
	last, _ := p.Add(api.Node{Op: "var", Name: "v0", At: pos(1, 1)})
	for i := 1; i < api.MaxNodes; i += 2 {
		one, _ := p.Add(api.Node{Op: "var", Name: "v" + strconv.Itoa(i), At: pos(2, i)})
		let, e := p.Add(api.Node{Op: "let", Name: "v" + strconv.Itoa(i-1), At: pos(3, i), Kids: []int{one, last}})
		if e == api.OK {
			last = let
		}
	}
	p.Main.Body = last
	_, w := scope.Of(p, parsePolicy(t, points))
	if len(w.Program) != 1999 { // every first part's; the innermost var is that of the innermost let
		t.Error(len(w.Program), tell(w.Program[:1]))
	}
	params := strings.Repeat("a,", 30000) + "b"
	p = parseProgram(t, "fun f("+params+") = a + b + c; main = 1;")
	if _, w = scope.Of(p, parsePolicy(t, points)); len(w.Program) != 30000 || tell(w.Program[:1]) != "8 1:9 a" || w.Program[29999].Name != "c" {
		t.Error(len(w.Program))
	}
	s := ""
	for i := range api.MaxDecls - 1 {
		s += "fun f" + strconv.Itoa(i) + "(a) = f" + strconv.Itoa(i/2) + "(a); "
	}
	resolved(t, parseProgram(t, s+"main = 1;"), parsePolicy(t, points))
}
