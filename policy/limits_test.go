package policy_test

import (
	"strings"
	"testing"

	"whisper/api"
)

// The tests of P7.1's limits, and of which error comes first.

const most = api.MaxDecls

func TestP7_1HundredItems(t *testing.T) {
	for k := range most { // the attacker at each place
		p := parse(t, confs(k)+"attacker b; "+confs(most-1-k))
		if len(p.Conf) != most-1 || p.Attacker != name("b", 1, 8*k+10) {
			t.Fatalf("%d items, and an attacker at place %d: %d, %v", most-1, k, len(p.Conf), p.Attacker)
		}
	}
	each := "conf a; integ b, c; order a < b; hatch h = 1 to p in f, main;\n"
	mixed := strings.Repeat(each, most/4)
	wantMissing(t, mixed, most/4+1, 1)
	wantError(t, mixed+"attacker a;", api.ErrLimit, most/4+1, 1)
	if p := parse(t, mixed[len("conf a;"):]+"attacker a;"); len(p.Conf)+len(p.Order)+len(p.Hatches) != 3*most/4-1 || len(p.Integ) != most/2 {
		t.Error("99 items of all kinds:", p)
	}
}

// Points, functions and nodes are no items, however many.
func TestP7_1OnlyItemsCount(t *testing.T) {
	long := "conf " + strings.Repeat("a, ", 200) + "b; hatch h = " + strings.Repeat("1; ", 300) + "2 to p in " + strings.Repeat("f, ", 200) + "main; " + confs(most-3)
	if p := parse(t, long+"attacker a;"); len(p.Conf) != 201+most-3 || len(p.Hatches) != 1 {
		t.Error("100 items:", len(p.Conf), len(p.Hatches))
	}
	wantError(t, long+"conf a;\nattacker a;", api.ErrLimit, 2, 1)
}

func TestP7_1OneItemMore(t *testing.T) {
	without := confs(most)
	with := confs(most-1) + "attacker a;\n"
	for _, s := range []string{
		"conf a;", "integ a;", "order a < b;", "attacker a;", "hatch h = 1 to p in f;",
		"conf", "conf 1;", "attacker", "hatch h = (", "order a < b < c;", // what is wrong behind its beginning comes later
		"conf a; attacker b; attacker c;",
		"let", ";", "a;", "1;", "main = 1;", // at its beginning, ErrLimit comes first
	} {
		wantError(t, without+s, api.ErrLimit, 1, 8*most+1)
		wantError(t, without+"\n # more\n "+s, api.ErrLimit, 3, 2)
		wantError(t, with+s, api.ErrLimit, 2, 1)
	}
	if p := parse(t, with); len(p.Conf) != most-1 {
		t.Errorf("%d items and an attacker", len(p.Conf))
	}
	wantMissing(t, without, 1, 8*most+1)
	wantMissing(t, without+"# conf a;", 1, 8*most+10)
	wantError(t, confs(10*most)+"attacker a;", api.ErrLimit, 1, 8*most+1)
}

func TestP7_1FirstError(t *testing.T) {
	many := confs(most)
	cut := strings.TrimSuffix(many, "; ") // the last ; is missing
	wantError(t, cut, api.ErrSyntax, 1, 8*most-1)
	wantError(t, cut+" conf a;", api.ErrSyntax, 1, 8*most)
	wantError(t, "let "+many+many, api.ErrSyntax, 1, 1)
	wantError(t, confs(50)+"conf "+many, api.ErrSyntax, 1, 8*50+6)
	wantTwice(t, "attacker a; "+confs(50)+"\nattacker b;"+many, name("b", 2, 10))
	wantTwice(t, "attacker a; "+confs(98)+"\nattacker b; conf a;", name("b", 2, 10)) // the 100th item
	wantError(t, "attacker a; "+confs(99)+"\nattacker b; conf a;", api.ErrLimit, 2, 1)
	wantTwice(t, "attacker a; attacker b; hatch h = "+deep(64)+" to p in f;", name("b", 1, 22))
	wantError(t, "attacker a; hatch h = "+deep(64)+" to p in f; attacker b;", api.ErrLimit, 1, 23+63)
	wantError(t, "conf a b; hatch h = "+deep(64)+" to p in f;", api.ErrSyntax, 1, 8)
	wantError(t, "hatch h = "+deep(64)+" to p f;", api.ErrLimit, 1, 11+63)
	wantError(t, "hatch = "+deep(64), api.ErrSyntax, 1, 7)
	wantError(t, many+"hatch h = "+deep(64), api.ErrLimit, 1, 8*most+1)
}

// deep is a number within n - 1 unaries.
func deep(n int) string { return strings.Repeat("-", n-1) + "1" }

// sum is an expression of n nodes, which is an odd number.
func sum(n int) string { return "1" + strings.Repeat("+1", n/2) }

func TestP7_1ExprErrors(t *testing.T) {
	for s, col := range map[string]int{
		"hatch h = ;": 11, "hatch h = 1 + to p in f;": 15, "hatch h = (1 to p in f;": 14, "hatch h = let x = 1 to p in f;": 21, "hatch h = if 1 then 2 to p in f;": 23,
		"hatch h = try 1 with 2 -> 3 to p in f;": 22, "hatch h = f(1,) to p in f;": 15, "hatch h = 1 = 2 = 3 to p in f;": 17, "hatch h = release h x to p in f;": 21,
		"hatch h = hole to p in f;": 16, "hatch h = x := 1 := 2 to p in f;": 18, "hatch h = 1; let 2 to p in f;": 18, "hatch h = not": 14, "hatch h = out c": 16,
	} {
		wantError(t, s, api.ErrSyntax, 1, col)
		wantError(t, "attacker a;\n"+s, api.ErrSyntax, 2, col)
	}
}

// Each hatch begins anew: what stands ahead of it doesn't make it deeper.
func TestP7_1Depth(t *testing.T) {
	one := "hatch h = " + deep(63) + " to p in f;\n"
	if p := parse(t, one+one+"attacker a;"); p.Len() != 2*63 || p.Deep(p.Hatches[1].Body) != 63 {
		t.Errorf("%d nodes, %d deep", p.Len(), p.Deep(p.Hatches[1].Body))
	}
	wantError(t, one+"hatch h = "+deep(64)+" to p in f;", api.ErrLimit, 2, 11+63)
	wantError(t, one+"hatch h = "+strings.Repeat("-", 63)+" to p in f;", api.ErrLimit, 2, 12+63)
}

// All hatches share one tree, and so its limit.
func TestP7_1Nodes(t *testing.T) {
	const all = api.MaxNodes
	full := "hatch h = -" + sum(all-1) + " to p in f;\n"
	nearly := "hatch h = " + sum(all-1) + " to p in f;\n"
	for _, s := range []string{full, nearly + "hatch g = 1 to p in f;", "hatch h = " + sum(1999) + " to p in f; hatch h = " + sum(2001) + " to p in f;"} {
		if p := parse(t, s+"attacker a;"); p.Len() != all {
			t.Errorf("%s has %d nodes", short(s), p.Len())
		}
	}
	wantError(t, "hatch h = "+sum(all+1)+" to p in f;", api.ErrLimit, 1, 11+all+2)
	wantError(t, nearly+"hatch g = -1\nto p in f;", api.ErrLimit, 3, 1)
	wantError(t, nearly+"hatch g = 1 + 1 to p in f;", api.ErrLimit, 2, 15+2)
	wantError(t, nearly+"hatch g = 1 to p in f;\nhatch i = 2\nto p in f;", api.ErrLimit, 4, 1)
	wantError(t, full+"hatch g = 1", api.ErrLimit, 2, 12) // at the end: ahead of ErrSyntax
	wantError(t, full+"hatch g = 1 )", api.ErrLimit, 2, 13)
	wantError(t, full+"hatch g 1 to p in f;", api.ErrSyntax, 2, 9)
	wantTwice(t, "attacker a; "+full+"attacker b;", name("b", 2, 10))
	wantMissing(t, full, 2, 1)
}
