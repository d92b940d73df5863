package expr_test

import (
	"errors"
	"math/rand"
	"strings"
	"testing"

	"whisper/api"
	"whisper/expr"
	"whisper/lex"
)

// times is a text that many times over.
func times(n int, s string) string { return strings.Repeat(s, n) }

// col is the position behind a text of one line.
func col(before string) api.Pos { return pos(1, len(before)+1) }

func TestP5_1DeepSigns(t *testing.T) {
	for _, sign := range []string{"-", "- ", "not ", "fst ", "snd "} {
		for n := range 62 { // the last unary is within the item, and n others
			wantGood(t, times(n+1, sign)+"x", n+2)
		}
		for _, n := range []int{63, 64, 100} {
			wantError(t, times(n, sign)+"x", api.ErrLimit, col(times(63, sign)))
		}
	}
	wantGood(t, times(62, "-")+"()", 63)
	wantGood(t, times(62, "-")+"f()", 63)
	wantGood(t, times(62, "-")+"!g", 63)
	wantGood(t, times(62, "-")+"hole k", 63)
	wantError(t, times(62, "-")+"(x)", api.ErrLimit, col(times(62, "-")+"("))
	wantError(t, times(62, "-")+"f(x)", api.ErrLimit, col(times(62, "-")+"f("))
	wantError(t, times(62, "-")+"release h (x)", api.ErrLimit, col(times(62, "-")+"release h ("))
}

func TestP5_1DeepBrackets(t *testing.T) {
	for _, c := range []struct{ open, close string }{{"(", ")"}, {"f(", ")"}, {"release h (", ")"}, {"(1, ", ")"}, {"(", ", 1)"}, {"f(1, 2; ", ")"}, {"f(", "; 1, 2)"}} {
		for _, n := range []int{1, 2, 15, 30, 31} { // each has a unary and an item
			s := times(n, c.open) + "x" + times(n, c.close)
			if _, _, err := expr.Parse(s); err != nil {
				t.Errorf("Parse(%s): %v", short(s), err)
			}
		}
		// Within 31 brackets an item is within 62 others, its unary within 63, and the item of the 32nd within 64.
		for _, n := range []int{32, 33, 60} {
			before := times(31, c.open) + c.open[:strings.IndexByte(c.open, '(')+1]
			wantError(t, times(n, c.open)+"x"+times(n, c.close), api.ErrLimit, col(before))
		}
	}
	// With one unary more the item is within 63, and its unary too deep.
	wantGood(t, "-"+times(30, "(")+"x"+times(30, ")"), 2)
	wantGood(t, "-"+times(30, "(")+"-x"+times(30, ")"), 3)
	wantError(t, "-"+times(31, "(")+"x", api.ErrLimit, col("-"+times(31, "(")))
	wantGood(t, "-"+times(31, "(")+")"+times(30, ")"), 2)
	wantGood(t, times(32, "(")+times(32, ")"), 1)
	wantGood(t, times(31, "(")+"f()"+times(31, ")"), 1)
}

func TestP5_1DeepWords(t *testing.T) {
	for _, c := range []struct{ open, first string }{
		{"let x = ", "let x = "}, {"let x = 1 in ", "let x = "}, {"if ", "if "}, {"if 1 then ", "if "}, {"if 1 then 2 else ", "if "}, {"try ", "try "}, {"try 1 with E -> ", "try "},
	} {
		// Within 62 of them an item is within 62 others, and its unary within 63.
		closed := map[string]string{"let x = ": " in 1", "if ": " then 1 else 1", "if 1 then ": " else 1", "try ": " with E -> 1"}[c.open]
		for _, n := range []int{1, 61, 62} {
			s := times(n, c.open) + "x" + times(n, closed)
			if _, _, err := expr.Parse(s); err != nil {
				t.Errorf("Parse(%s): %v", short(s), err)
			}
		}
		for _, n := range []int{63, 64, 70} {
			at := col(times(62, c.open) + c.first)
			if c.first == c.open && n > 63 {
				at = col(times(64, c.open)) // an item of words has no unary ahead of its own items
			}
			wantError(t, times(n, c.open)+"x"+times(n, closed), api.ErrLimit, at)
		}
	}
	for _, s := range []string{"raise E", "out c x", "g := x", "x"} {
		for _, n := range []int{62, 63, 64} {
			before := times(n, "try ")
			switch {
			case n == 62 || n == 63 && s == "raise E": // a raise has no unary
				wantError(t, before+s, api.ErrSyntax, col(before+s))
			case n == 63:
				wantError(t, before+s, api.ErrLimit, col(before+s[:len(s)-1]))
			default:
				wantError(t, before+s, api.ErrLimit, col(before))
			}
		}
	}
}

// deepWalk puts openings one behind another, each within all those before it. It returns their text, whether an item comes next (if not, a unary), and how many items and unaries that is within; it ends where that is too deep.
func deepWalk(rnd *rand.Rand, steps int) (text string, isItem bool, deep int) {
	pick := func(l ...string) string { return l[rnd.Intn(len(l))] }
	for isItem = true; deep < steps && deep < 64; deep++ {
		switch {
		case isItem && rnd.Intn(2) == 0:
			text += pick("let x = ", "if ", "try ")
		case isItem:
			text, isItem = text+pick("out c ", "g := ", ""), false
		case rnd.Intn(2) == 0:
			text += pick("- ", "not ", "fst ", "snd ")
		default:
			text, isItem = text+pick("( ", "f( ", "release h ( "), true
		}
	}
	return text, isItem, deep
}

func TestP5_1DeepMixed(t *testing.T) {
	rnd := rand.New(rand.NewSource(5))
	for range 2000 {
		text, isItem, deep := deepWalk(rnd, 58+rnd.Intn(8))
		here, behind := col(text), col(text+"x")
		for _, last := range []string{"then", "*", "in", "->", ""} { // whatever token is there
			code := api.ErrSyntax
			if deep == 64 || deep == 63 && isItem { // an item that begins with no word has a unary at once
				code = api.ErrLimit
			}
			wantError(t, text+last, code, here)
		}
		switch {
		case deep == 64 && isItem:
			wantError(t, text+"let", api.ErrLimit, here)
		case deep == 64:
			wantError(t, text+"x *", api.ErrLimit, here)
		case isItem:
			wantError(t, text+"raise", api.ErrSyntax, col(text+"raise"))
		default:
			wantError(t, text+"x*", api.ErrSyntax, pos(1, behind.Col+1))
		}
	}
}

// What has ended counts no more.
func TestP5_1DeepSiblings(t *testing.T) {
	most := times(31, "(") + "x" + times(31, ")")
	for _, s := range []string{most + "+" + most, most + "*" + most, most + ";" + most, most + " or " + most, most + "<" + most, most + times(40, "and "+most)} {
		if _, _, err := expr.Parse(s); err != nil {
			t.Errorf("Parse(%s): %v", short(s), err)
		}
	}
	wantError(t, most+"+("+most+")", api.ErrLimit, col(most+"+"+times(32, "(")))
	r := reader(t, most+" , "+most)
	if _, err := r.Expr(); err != nil || r.Take(",") != nil {
		t.Error("Expr of what is as deep as may be:", err)
	}
	if _, err := r.Expr(); err != nil || r.Next().Kind != lex.End {
		t.Error("Expr of one more:", err)
	}
}

func TestP5_1AnyNumber(t *testing.T) {
	for _, mark := range []string{" or ", " and ", "+", "-", "*", ";"} {
		for _, n := range []int{62, 63, 64, 65, 500, 1999} {
			wantGood(t, "x"+times(n, mark+"x"), 2*n+1)
		}
	}
	for _, n := range []int{64, 1000, 3998} {
		wantGood(t, "f(x"+times(n, ",x")+")", n+2)
	}
}

func TestP5_1NodesOfChains(t *testing.T) {
	for _, mark := range []string{"or", "and", "+", "-", "*"} {
		sum := times(1999, "x "+mark+" ") // with one more: 2000 parts, and 1999 nodes between them
		wantGood(t, sum+"x", 3999)
		wantGood(t, sum+"-x", 4000)
		wantError(t, sum+"--x", api.ErrLimit, col(sum+"--x"))
		wantError(t, sum+"--x  "+mark+" x", api.ErrLimit, col(sum+"--x  "))
		wantError(t, sum+"----x "+mark+" x", api.ErrLimit, col(sum+"----x "))
		wantError(t, sum+"-x "+mark+" x", api.ErrLimit, col(sum+"-x "+mark+" x"))
		wantError(t, sum+"-x "+mark+" x "+mark+" x", api.ErrLimit, col(sum+"-x "+mark+" x "))
	}
}

func TestP5_1NodesOfSequences(t *testing.T) {
	items := times(1999, "x; ")
	wantGood(t, items+"x", 3999)
	wantGood(t, items+"-x", 4000)
	wantError(t, items+"--x", api.ErrLimit, col(items+"--x"))
	wantError(t, items+"x; x", api.ErrLimit, col(items+"x; x"))
	wantError(t, items+"--x )", api.ErrLimit, col(items+"--x "))
	wantError(t, items+"--x ; )", api.ErrLimit, col(items+"--x "))
	wantError(t, times(4000, "x;")+"x", api.ErrLimit, col(times(4000, "x;")+"x"))
	wantError(t, times(4001, "x;")+"x", api.ErrLimit, col(times(4000, "x;")+"x"))
}

func TestP5_1NodesOfCalls(t *testing.T) {
	wantGood(t, "f("+times(3998, "x,")+"x)", 4000)
	wantError(t, "f("+times(3999, "x,")+"x)", api.ErrLimit, col("f("+times(3999, "x,")+"x)"))
	wantError(t, "f("+times(3999, "x,")+"x) x", api.ErrLimit, col("f("+times(3999, "x,")+"x) "))
	wantError(t, "f("+times(4000, "x,")+"x)", api.ErrLimit, col("f("+times(4000, "x,")+"x"))
	wantError(t, "f("+times(4001, "x,")+"x)", api.ErrLimit, col("f("+times(4000, "x,")+"x"))
	wantError(t, "f("+times(3999, "x,")+"x", api.ErrSyntax, col("f("+times(3999, "x,")+"x"))
}

// filled is a reader whose tree has room for some nodes.
func filled(t *testing.T, s string, room int) *expr.Reader {
	t.Helper()
	r := reader(t, s)
	for r.Len() < api.MaxNodes-room {
		r.Add(api.Node{Op: "unit"})
	}
	return r
}

// The last node of each form is the one that holds the others: without room for it, the error is at what comes behind the form, be it right there or not.
func TestP5_1NodesOfForms(t *testing.T) {
	for _, c := range forms {
		if c.text == "(a)" { // its brackets have no node
			continue
		}
		for _, behind := range []string{"", "then", ")", ";", "9"} {
			s := c.text + " " + behind
			r := filled(t, s, c.nodes)
			if i, err := r.Expr(); err != nil || i != api.MaxNodes-1 || r.Next().Text != behind {
				t.Errorf("Expr of %q, with room for %d nodes: %d, %v", s, c.nodes, i, err)
			}
			for room := range c.nodes {
				i, err := filled(t, s, room).Expr()
				want := col(c.text + " ")
				if room < c.nodes-1 {
					want = errorAt(err) // within the form: see below
				}
				wantDiag(t, s, err, api.Diag{Code: api.ErrLimit, At: want})
				if i != 0 {
					t.Errorf("Expr of %q = %d beside an error", s, i)
				}
			}
		}
	}
	for _, c := range []struct {
		s         string
		room, col int
	}{
		{"a + b * c", 0, 3}, {"a + b * c", 1, 7}, {"a + b * c", 2, 10}, {"a + b * c", 3, 10}, {"a + b * c", 4, 10},
		{"a; b; c", 0, 2}, {"a; b; c", 1, 5}, {"a; b; c", 2, 8}, {"a; b; c", 3, 8}, {"a; b; c", 4, 8},
		{"f(a, b)", 0, 4}, {"f(a, b)", 1, 7}, {"f(a, b)", 2, 8},
		{"(a, b)", 0, 3}, {"(a, b)", 1, 6}, {"(a, b)", 2, 7},
		{"let x = a in b", 0, 11}, {"let x = a in b", 1, 15},
		{"if a then b else c", 0, 6}, {"if a then b else c", 1, 13}, {"if a then b else c", 2, 19},
		{"- - a", 0, 6}, {"release h (a)", 0, 13}, {"release h (a)", 1, 14}, {"(a)", 0, 3}, {"((a))", 0, 4},
	} {
		_, err := filled(t, c.s, c.room).Expr()
		wantDiag(t, c.s, err, api.Diag{Code: api.ErrLimit, At: pos(1, c.col)})
	}
}

func errorAt(err error) api.Pos {
	var d api.Diag
	errors.As(err, &d)
	return d.At
}

func TestP5_1FirstError(t *testing.T) {
	full := times(1999, "x + ") + "-x" // 4000 nodes
	deep := times(63, "-")             // behind it a unary is too deep
	for _, c := range []struct {
		s    string
		code api.Errno
		at   api.Pos
	}{
		// The first one in the text.
		{"( + " + full + " + x", api.ErrSyntax, pos(1, 3)},
		{"( + " + deep + "x", api.ErrSyntax, pos(1, 3)},
		{full + " + x + + ", api.ErrLimit, col(full + " + x ")},
		{full + " + + x", api.ErrSyntax, col(full + " + ")},
		{full + " + " + deep + "x", api.ErrLimit, col(full + " + " + deep)},
		{deep + "x + +", api.ErrLimit, col(deep)},
		{full + " x", api.ErrSyntax, col(full + " ")},
		{full + " x x", api.ErrSyntax, col(full + " ")},
		{"x x " + deep + "x", api.ErrSyntax, pos(1, 3)},
		{"f(" + deep + "x", api.ErrLimit, col("f(" + deep[:61])},
		// At one position ErrLimit.
		{deep, api.ErrLimit, col(deep)},
		{deep + ")", api.ErrLimit, col(deep)},
		{deep + "then", api.ErrLimit, col(deep)},
		{full + " + x", api.ErrLimit, col(full + " + x")},
		{full + " + x x", api.ErrLimit, col(full + " + x ")},
		{full + " + x then", api.ErrLimit, col(full + " + x ")},
		{"-" + full + " x", api.ErrLimit, col("-" + full + " ")},
		{"(" + full + " + x", api.ErrLimit, col("(" + full + " + x")},
		{"let x = " + full + " + x = 1", api.ErrLimit, col("let x = " + full + " + x ")},
	} {
		wantError(t, c.s, c.code, c.at)
	}
}
