package infer_test

import (
	"strconv"
	"strings"
	"testing"

	"whisper/api"
	"whisper/infer"
	"whisper/policy"
	"whisper/program"
	"whisper/scope"
	"whisper/tree"
)

// The tests of P1, with programs as great as they may be, and types that are nested deep, or share their parts.

func wantFuns(t *testing.T, text, want string) {
	t.Helper()
	got := tell(infer.Of(scopeOf(t, points, text)))
	if got != want {
		t.Errorf("%d bytes: %d bytes of answer, %.100s; want %d, %.100s", len(text), len(got), got, len(want), want)
	}
}

// manyFuns is functions of which each has a body made of its number's text and of that of the next one.
func manyFuns(n int, body func(this, next string) string) string {
	var s strings.Builder
	for i := range n {
		s.WriteString("fun f" + strconv.Itoa(i) + "(a) = " + body(strconv.Itoa(i), strconv.Itoa(i+1)) + ";\n")
	}
	return s.String()
}

func TestP1ManyFuns(t *testing.T) {
	const n = 97 // and a last function, main, and an exception
	each := func(param, result string) string {
		var l []string
		for i := range n + 1 {
			l = append(l, "f"+strconv.Itoa(i)+"["+param+"] "+result)
		}
		return strings.Join(l, "; ")
	}
	last := "fun f" + strconv.Itoa(n) + "(a) = "
	next := func(_, next string) string { return "f" + next + "(a)" }
	wantFuns(t, manyFuns(n, next)+last+"a; main = f0(true);", each("bool", "bool")+"; main[] bool")
	wantFuns(t, manyFuns(n, next)+last+"a; main = f0((1, ()));", each("(int, unit)", "(int, unit)")+"; main[] (int, unit)")
	wantFuns(t, manyFuns(n, next)+last+"f0(a); main = 1;", each("'0", "'1")+"; main[] int")
	wantFuns(t, manyFuns(n, func(_, next string) string { return "not f" + next + "(a)" })+last+"a; main = f0(raise E); exception E;", each("bool", "bool")+"; main[] bool")
}

// A function calls the next one with a pair of its parameter twice: the texts of the last ones' types would never end, but an error is all that is told.
func TestP1DoubledParams(t *testing.T) {
	text := manyFuns(94, func(_, next string) string { return "let b = (a, a) in (f" + next + "(b); 1)" })
	wantFuns(t, text+"fun f94(a) = not a; main = 1;", "wrong the policy: the program: 95:14 10 not")
	wantFuns(t, "fun f94(a) = not a; main = 1;"+text, "wrong the policy: the program: 94:33 10 call")
}

// doubled adds lets, each of a pair of the one around it twice, and of which the innermost one has a given part.
func doubled(t *tree.Tree, lets int, first api.Node, name string, inside func() int) int {
	add := func(n api.Node) int {
		n.At = api.Pos{Line: 2, Col: t.Len()}
		i, _ := t.Add(n)
		return i
	}
	parts := []int{add(first)}
	for range lets {
		parts = append(parts, add(api.Node{Op: "pair", Kids: []int{add(api.Node{Op: "var", Name: name}), add(api.Node{Op: "var", Name: name})}}))
	}
	i := inside()
	for len(parts) > 0 {
		last := len(parts) - 1
		i = add(api.Node{Op: "let", Name: name, Kids: []int{parts[last], i}})
		parts = parts[:last]
	}
	return i
}

// Two such types are unified, both ways.
func TestP1DoubledTypes(t *testing.T) {
	for first, want := range map[string]string{"int": "main[] int", "raise": "main[] '0", "true": "main[] bool"} {
		for _, names := range [][2]string{{"a", "b"}, {"b", "a"}} {
			p := &program.Program{Tree: &tree.Tree{}}
			add := func(op, name string, kids ...int) int {
				i, _ := p.Add(api.Node{Op: op, Name: name, Kids: kids})
				return i
			}
			p.Main = program.Fun{Name: program.Name{Text: "main"}}
			outer := add("raise", "E")
			p.Main.Body = add("let", "x", outer, doubled(p.Tree, 450, api.Node{Op: "var", Name: "x"}, "a", func() int {
				return doubled(p.Tree, 450, api.Node{Op: first}, "b", func() int {
					both := add("try", "E", add("var", names[0]), add("var", names[1]))
					return add("seq", "", both, add("var", "x"))
				})
			}))
			if got := tell(infer.Of(&scope.Scope{Program: p, Policy: &policy.Policy{}})); got != want {
				t.Errorf("%s: %.200s; want %s", first, got, want)
			}
		}
	}
}

// Types that are nested deep in first, and in second, parts.
func TestP1DeepTypes(t *testing.T) {
	left, right := "1", "1"
	for range 28 {
		left, right = "("+left+", ())", "((), "+right+")"
	}
	ofLeft, ofRight := strings.NewReplacer("()", "unit", "1", "int").Replace(left), strings.NewReplacer("()", "unit", "1", "int").Replace(right)
	wantFuns(t, "fun f(a, b) = (b, a); main = f("+left+", "+right+");", "f["+ofLeft+" | "+ofRight+"] ("+ofRight+", "+ofLeft+"); main[] ("+ofRight+", "+ofLeft+")")
	at := strconv.Itoa(len("fun f(a) = a; main = (f(" + left + "), f"))
	wantFuns(t, "fun f(a) = a; main = (f("+left+"), f("+right+"));", "wrong the policy: the program: 1:"+at+" 10 call")
}

// The last node of a tree has a type with as many pairs as there may be nodes.
func TestP1LongTypes(t *testing.T) {
	p := &program.Program{Tree: &tree.Tree{}}
	i, _ := p.Add(api.Node{Op: "int"})
	one, want := i, "int"
	for p.Len() < api.MaxNodes {
		i, _ = p.Add(api.Node{Op: "pair", Kids: []int{i, one}})
	}
	want = strings.Repeat("(", api.MaxNodes-1) + "int" + strings.Repeat(", int)", api.MaxNodes-1)
	p.Main = program.Fun{Name: program.Name{Text: "main"}, Body: i}
	if got := tell(infer.Of(&scope.Scope{Program: p, Policy: &policy.Policy{}})); got != "main[] "+want {
		t.Errorf("%d bytes; want %d", len(got), len(want))
	}
}

func TestP1LongSums(t *testing.T) {
	sum := "1" + strings.Repeat(" + 1", 1990)
	wantFuns(t, "main = "+sum+";", "main[] int")
	wantFuns(t, "main = "+sum+" + true;", "wrong the policy: the program: 1:"+strconv.Itoa(len("main = "+sum)+2)+" 10 +")
	wantFuns(t, "main = 1"+strings.Repeat("; 1", 1990)+"; ();", "main[] unit")
	wantFuns(t, "main = not 1"+strings.Repeat("; not 1", 1300)+";", "wrong the policy: the program: 1:8 10 not")
}
