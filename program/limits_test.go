package program_test

import (
	"strings"
	"testing"

	"whisper/api"
)

// The tests of P6.1's limits, and of which error comes first.

func TestP6_1HundredDecls(t *testing.T) {
	const most = api.MaxDecls
	for k := range most { // the main at each place
		p := parse(t, exceptions(k)+"main = 1; "+exceptions(most-1-k))
		if len(p.Exns) != most-1 || p.Main.At != pos(1, 13*k+1) {
			t.Fatalf("%d declarations, and a main at place %d: %d, %v", most-1, k, len(p.Exns), p.Main)
		}
	}
	mixed := strings.Repeat("input i : {a b}; global g : {a b} = 1; channel c : {a b}; exception e; fun f() = 1;\n", 20)
	wantMain(t, mixed, api.ErrMissing, pos(21, 1))
	wantError(t, mixed+"main = 1;", api.ErrLimit, pos(21, 1))
	mixed = mixed[strings.Index(mixed, "global"):]
	if p := parse(t, mixed+"main = 1;"); len(p.Inputs)+len(p.Globals)+len(p.Channels)+len(p.Exns)+len(p.Funs) != most-1 {
		t.Error("99 declarations of all kinds:", p)
	}
}

// Params and nodes are no declarations, however many.
func TestP6_1OnlyDeclsCount(t *testing.T) {
	long := "fun f(" + strings.Repeat("a, ", 200) + "b) = " + strings.Repeat("1; ", 300) + exceptions(api.MaxDecls-2)
	if p := parse(t, long+"main = 1;"); len(p.Exns) != api.MaxDecls-2 || len(p.Funs) != 1 {
		t.Error("100 declarations:", len(p.Exns), len(p.Funs))
	}
	wantError(t, long+"exception E;\nmain = 1;", api.ErrLimit, pos(2, 1))
}

func TestP6_1OneDeclMore(t *testing.T) {
	full := exceptions(api.MaxDecls)                               // without a main
	main := "main = 1;    " + exceptions(api.MaxDecls-1)           // with one
	last := exceptions(api.MaxDecls-1) + "main = 1;    "           // the body's own ; ends it
	goes := exceptions(api.MaxDecls-1) + "main = 1;\n2;\n3;    \n" // a ; within it doesn't begin a declaration
	for _, s := range []string{
		"exception E;", "input i : {a b};", "global g : {a b} = 1;", "channel c : {a b};", "fun f() = 1;", "main = 1;",
		"exception", "main", "fun f(", "input 1", // what is wrong behind its beginning comes later
		"let x = 1;", ";", "in", ")", "exception E; main = 1; main = 2;", // at its beginning, ErrLimit comes first
	} {
		wantError(t, full+s, api.ErrLimit, pos(1, 13*api.MaxDecls+1))
		wantError(t, main+s, api.ErrLimit, pos(1, 13*api.MaxDecls+1))
		wantError(t, full+"\n # more\n "+s, api.ErrLimit, pos(3, 2))
	}
	for _, s := range []string{"exception E;", "main = 1;", "in", ")", ";"} {
		wantError(t, last+s, api.ErrLimit, pos(1, 13*api.MaxDecls+1))
		wantError(t, goes+s, api.ErrLimit, pos(4, 1))
	}
	for _, s := range []string{main, last, goes} {
		if p := parse(t, s); len(p.Exns) != api.MaxDecls-1 {
			t.Errorf("%d declarations and a main", len(p.Exns))
		}
	}
	wantMain(t, full, api.ErrMissing, pos(1, 13*api.MaxDecls+1))
	wantError(t, exceptions(10*api.MaxDecls)+"main = 1;", api.ErrLimit, pos(1, 13*api.MaxDecls+1))
}

// What comes ahead of the 101st declaration is told first.
func TestP6_1FirstError(t *testing.T) {
	many := exceptions(api.MaxDecls)
	end := strings.TrimSuffix(many, "; ") // the last ; is missing
	wantError(t, end, api.ErrSyntax, pos(1, 13*api.MaxDecls-1))
	wantError(t, end+" exception E;", api.ErrSyntax, pos(1, 13*api.MaxDecls))
	wantError(t, "let "+many+many, api.ErrSyntax, pos(1, 1))
	wantError(t, many[:13*50]+"exception "+many, api.ErrSyntax, pos(1, 13*50+11))
	wantMain(t, "main = 1; "+many[:13*50]+"\nmain = 1;"+many, api.ErrTwice, pos(2, 1))
	wantMain(t, "main = 1; "+many[:13*50]+"\nmain main\n"+many, api.ErrTwice, pos(2, 1))
	wantError(t, "exception 1; main = 1; main = 2;", api.ErrSyntax, pos(1, 11))
	wantError(t, "main = 1; exception 1; main = 2;", api.ErrSyntax, pos(1, 21))
	wantMain(t, "main = 1; exception E; main = 2; exception 1;", api.ErrTwice, pos(1, 24))
	wantError(t, "main = "+deep(65)+"; main", api.ErrLimit, pos(1, 8+63))
	wantError(t, "main = 1 1; fun f() = "+deep(65)+";", api.ErrSyntax, pos(1, 10))
	wantMain(t, "main = 1; main = "+deep(65)+";", api.ErrTwice, pos(1, 11))
	wantError(t, many+"fun f() = "+deep(65), api.ErrLimit, pos(1, 13*api.MaxDecls+1))
	// at the end, ErrSyntax comes ahead of ErrMissing
	for _, s := range []string{"input", "input x", "exception E", "fun f() = 1", "fun f() = 1;2", "main", "main =", "global g : {a b} = -"} {
		wantError(t, s, api.ErrSyntax, pos(1, len(s)+1))
	}
}

// deep is a number within an item, and n unaries, itself the last of these.
func deep(n int) string { return strings.Repeat("-", n-1) + "1" }

// sum is an expression of n nodes, which is an odd number.
func sum(n int) string { return "1" + strings.Repeat("+1", n/2) }

func TestP6_1ExprErrors(t *testing.T) {
	for s, at := range map[string]api.Pos{
		"main = ;": pos(1, 8), "main = 1 +;": pos(1, 11), "main = 1 + ": pos(1, 12), "main = (1 main = 2;": pos(1, 11),
		"fun f(x) = let y = x main = 1;":                  pos(1, 22),
		"fun f() = 1;\nfun g() = if 1 then 2;\nmain = 1;": pos(2, 22),
		"main = try 1 with 2;":                            pos(1, 19), "main = out 1;": pos(1, 12), "main = f(1,);": pos(1, 12), "main = 1 = 2 = 3;": pos(1, 14),
		"main = release h x;": pos(1, 18), "main = hole;": pos(1, 12), "main = raise main;": pos(1, 14), "main = x := 1 := 2;": pos(1, 15),
	} {
		wantError(t, s, api.ErrSyntax, at)
	}
}

// Each body begins anew: what stands ahead of it doesn't make it deeper.
func TestP6_1Depth(t *testing.T) {
	p := parse(t, "fun f() = "+deep(63)+"; fun g() = "+deep(63)+"; main = "+deep(63)+";")
	if p.Len() != 3*63 || p.Deep(p.Main.Body) != 63 || len(p.Funs) != 2 {
		t.Errorf("%d nodes, %d deep", p.Len(), p.Deep(p.Main.Body))
	}
	wantError(t, "main = "+deep(64)+";", api.ErrLimit, pos(1, 8+63))
	wantError(t, "fun f() = "+deep(63)+";\nfun g() = "+deep(64)+"; main = 1;", api.ErrLimit, pos(2, 11+63))
	wantError(t, "fun f() = "+deep(63)+";\nmain = "+strings.Repeat("-", 63)+";", api.ErrLimit, pos(2, 8+63))
}

// All bodies share one tree, and so its limit.
func TestP6_1Nodes(t *testing.T) {
	const most = api.MaxNodes
	for _, s := range []string{"fun f() = " + sum(most-1) + "; main = 1;", "main = " + sum(1999) + "; fun f() = " + sum(2001) + ";", "main = -" + sum(most-1) + ";"} {
		if p := parse(t, s); p.Len() != most {
			t.Errorf("%s has %d nodes", short(s), p.Len())
		}
	}
	wantError(t, "main = "+sum(most+1)+";", api.ErrLimit, pos(1, 8+most+1))
	wantError(t, "fun f() = "+sum(most-1)+";\nmain = -1;", api.ErrLimit, pos(2, 10))
	wantError(t, "fun f() = "+sum(most-1)+";\nmain = 1 + 1;", api.ErrLimit, pos(2, 13))
	wantError(t, "fun f() = "+sum(most-1)+";\nmain = 1;\nfun g() = 2\n;", api.ErrLimit, pos(4, 1))
	wantError(t, "fun f() = -"+sum(most-1)+"; exception E;\nmain = 1", api.ErrLimit, pos(2, 9))    // at the end: ahead of ErrSyntax
	wantError(t, "fun f() = -"+sum(most-1)+"; exception E;\nmain = 1 )", api.ErrLimit, pos(2, 10)) // and at a token that can't be there
	wantError(t, "fun f() = -"+sum(most-1)+";\nmain 1;", api.ErrSyntax, pos(2, 6))
	wantMain(t, "main = -"+sum(most-1)+";\nmain = 1;", api.ErrTwice, pos(2, 1))
	wantMain(t, "fun f() = -"+sum(most-1)+";\n", api.ErrMissing, pos(2, 1))
}
