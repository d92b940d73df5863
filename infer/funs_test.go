package infer_test

import (
	"strings"
	"testing"

	"whisper/infer"
)

// The tests of P11.1 for calls, for the lists that Of returns, and for hatches.

func TestP11_1Calls(t *testing.T) {
	for _, c := range [][2]string{
		// Declared before, after, and the function itself.
		{"fun f(a) = not a; fun g(b) = f(b); main = g(true);", "f[bool] bool; g[bool] bool; main[] bool"},
		{"fun g(b) = f(b); fun f(a) = not a; main = g(true);", "g[bool] bool; f[bool] bool; main[] bool"},
		{"main = g(true); fun g(b) = f(b); fun f(a) = not a;", "g[bool] bool; f[bool] bool; main[] bool"},
		{"fun f(n) = if n < 1 then 0 else f(n - 1) + n; main = f(3);", "f[int] int; main[] int"},
		{"fun f(n) = f(n); main = 1;", "f['0] '1; main[] int"},
		{"fun f(a, b) = f(b, a); main = 1;", "f['0 | '0] '1; main[] int"},
		{"fun f(a) = g(a); fun g(b) = f(b); main = 1;", "f['0] '1; g['0] '1; main[] int"},
		{"fun even(n) = if n < 1 then true else odd(n - 1); fun odd(n) = if n < 1 then false else even(n - 1); main = even(4);", "even[int] bool; odd[int] bool; main[] bool"},
		// Parameters that the body, another function, and main fit.
		{"fun f(a) = a + 1; main = 1;", "f[int] int; main[] int"},
		{"fun f(a) = a; fun g() = f(1); main = ();", "f[int] int; g[] int; main[] unit"},
		{"fun f(a) = a; main = f(1);", "f[int] int; main[] int"},
		{"fun f(a) = a; main = f(true);", "f[bool] bool; main[] bool"},
		{"fun f(a) = a; main = not f(raise E);", "f[bool] bool; main[] bool"},
		{"fun f(a, b) = (a, b); fun g(x) = f(x, true); main = f((), raise E);", "f[unit | bool] (unit, bool); g[unit] (unit, bool); main[] (unit, bool)"},
		{"fun f(a, b) = if a then b else f(a, b); main = f(true, (1, ()));", "f[bool | (int, unit)] (int, unit); main[] (int, unit)"},
		{"fun f() = raise E; main = f() + 1;", "f[] int; main[] int"},
		{"fun f() = raise E; main = f();", "f[] '0; main[] '0"},
		{"fun f() = raise E; fun g() = f(); fun h() = g(); main = not h();", "f[] bool; g[] bool; h[] bool; main[] bool"},
		// Several calls, with one type.
		{"fun f(a) = a; main = (f(1), f(2));", "f[int] int; main[] (int, int)"},
		{"fun f(a) = a; main = (f(raise E), f(2));", "f[int] int; main[] (int, int)"},
		{"fun f(a) = a; main = f(f(f(())));", "f[unit] unit; main[] unit"},
		{"fun f(a) = (a, 1); fun g(b) = f(b); main = (g(true), f(false));", "f[bool] (bool, int); g[bool] (bool, int); main[] ((bool, int), (bool, int))"},
		{"fun f() = 1; main = f();", "f[] int; main[] int"},
		{"fun f(a, b, d) = a; main = f(1, (), true);", "f[int | unit | bool] int; main[] int"},
	} {
		wantOf(t, c[0], c[1])
	}
}

func TestP11_1WrongCalls(t *testing.T) {
	for _, c := range [][2]string{
		// Several calls, with two types.
		{"fun f(a) = a; main = (f(1), f(true));", "2:29 call"},
		{"fun f(a) = a; main = (f(true), f(1));", "2:32 call"},
		{"fun f(a) = a; fun g() = f(1); main = f(());", "2:38 call"},
		{"fun f(a) = a; fun g() = f(1); fun h() = not f(raise E); main = 1;", "2:41 not"},
		{"fun f(a) = (a, 1); main = f(f(1));", "2:27 call"},
		// A parameter of another type, each one.
		{"fun f(a) = a + 1; main = f(true);", "2:26 call"},
		{"main = f(true); fun f(a) = a + 1;", "2:8 call"},
		{"fun f(a, b) = (not a, b + 1); main = f(1, 1);", "2:38 call"},
		{"fun f(a, b) = (not a, b + 1); main = f(true, true);", "2:38 call"},
		{"fun f(a, b, d) = d; main = f(1, 2, 3) and true;", "2:39 and"},
		{"fun f(a, b) = if true then a else b; main = f(1, ());", "2:45 call"},
		{"fun f(a) = f(1); fun g() = f(true); main = 1;", "2:28 call"},
		{"fun f(a) = a + f(true); main = 1;", "2:14 +"},
		{"fun f(a) = f(true) + a; main = 1;", "2:20 +"},
		{"fun f(a) = f(f(a)) + 1; main = f(not f(1));", "2:34 not"},
		// A result that a call before its function has fitted: the error is at the function's expression.
		{"fun g() = not f(); fun f() = 1; main = 1;", "2:30 int"},
		{"fun g() = not f(); fun f() = (2; (1, 1)); main = 1;", "2:32 seq"},
		{"fun f(n) = (f(n) + 1; true); main = 1;", "2:21 seq"},
		{"fun f(n) = if f(n) then 1 else 2; main = 1;", "2:12 if"},
		{"fun g() = not f(); fun f() = g; main = 1; input g : {low ok};", "2:30 var"},
		{"fun g() = f() + 1; fun f() = !g < 1; main = 1;", "2:33 <"},
		{"main = 1; fun g() = f() + 1; fun f() = true;", "2:40 true"},
		{"fun f() = 1; main = f() and true;", "2:25 and"},
	} {
		wantWrong(t, c[0], c[1])
	}
}

// Each function's open types are numbered from 0 on, in the order in which they occur in its parameters and its result.
func TestP11_1Numbers(t *testing.T) {
	for _, c := range [][2]string{
		{"fun f(a) = (a, 1); main = 1;", "f['0] ('0, int); main[] int"},
		{"fun f(a, b) = (b, a); fun g(a, b) = (a, b); main = 1;", "f['0 | '1] ('1, '0); g['0 | '1] ('0, '1); main[] int"},
		{"fun f(a, b, d) = ((d, raise E), (a, raise E)); fun g(a) = a; main = (raise E, raise E);", "f['0 | '1 | '2] (('2, '3), ('0, '4)); g['0] '0; main[] ('0, '1)"},
		{"fun f(a, b) = (snd a, fst b); main = 1;", "f[('0, '1) | ('2, '3)] ('1, '2); main[] int"},
		{"fun f(a, b) = if true then a else b; main = 1;", "f['0 | '0] '0; main[] int"},
		{"fun f(a, b, d) = if true then (b, b) else (d, d); main = 1;", "f['0 | '1 | '1] ('1, '1); main[] int"},
		// Open types that functions share have other numbers in each.
		{"fun f(a, b) = (b, a); fun g(a) = snd f(a, raise E); main = 1;", "f['0 | '1] ('1, '0); g['0] '0; main[] int"},
		{"fun f(a, b) = (b, a); fun g(a) = fst f(raise E, a); main = 1;", "f['0 | '1] ('1, '0); g['0] '0; main[] int"},
		{"fun f(a, b) = g(b); fun g(d) = d; main = 1;", "f['0 | '1] '1; g['0] '0; main[] int"},
	} {
		wantOf(t, c[0], c[1])
	}
}

// Main comes last, wherever it stands.
func TestP11_1Rows(t *testing.T) {
	for _, c := range [][2]string{
		{"main = true;", "main[] bool"},
		{"fun f() = 1; main = true;", "f[] int; main[] bool"},
		{"main = true; fun f() = 1;", "f[] int; main[] bool"},
		{"fun z() = 1; fun a(x) = not x; main = (); fun m(p, q, r) = (p + 1; q := 2; r); global q : {low ok} = 1;", "z[] int; a[bool] bool; m[int | '0 | '1] '1; main[] unit"},
	} {
		wantOf(t, c[0], c[1])
	}
}

func TestP11_1Hatches(t *testing.T) {
	const program = "input i : {low ok}; input k : {low ok}; exception E; main = 1;"
	for _, c := range [][2]string{
		{"", "main[] int"},
		{"hatch h = 1 to low in main;", "main[] int; hatches: int"},
		{"hatch h = true to low in main;", "main[] int; hatches: bool"},
		{"hatch h = i to low in main; hatch a = i = k to low in main; hatch b = - i to low in main;", "main[] int; hatches: int | bool | int"},
		{"hatch b = not (i < k) to low in main; hatch a = false to low in main;", "main[] int; hatches: bool | bool"},
		{"hatch a = if i < k then i else k to low in main; hatch b = if true then i < k else false to low in main;", "main[] int; hatches: int | bool"},
		{"hatch a = i + k to low in main; hatch b = i - k * 2 to low in main; hatch d = i < 1 and true or false to low in main;", "main[] int; hatches: int | int | bool"},
	} {
		if got := tell(infer.Of(scopeOf(t, points+c[0], program))); got != c[1] {
			t.Errorf("%s: %s; want %s", c[0], got, c[1])
		}
	}
}

// The error of a hatch is the only one, whatever else is wrong.
func TestP11_1WrongHatches(t *testing.T) {
	for _, c := range [][2]string{
		{"hatch h = true + 1 to low in main;", "2:16 10 +"},
		{"hatch h = 1 +\n true to low in main;", "2:13 10 +"},
		{"hatch h = not i to low in main;", "2:11 10 not"},
		{"hatch h = - true to low in main;", "2:11 10 neg"},
		{"hatch h = i and true to low in main;", "2:13 10 and"},
		{"hatch h = true or k to low in main;", "2:16 10 or"},
		{"hatch h = (i < k) = true to low in main;", "2:19 10 ="},
		{"hatch h = 1 < (2 < 3) to low in main;", "2:13 10 <"},
		{"hatch h = 1 - false to low in main;", "2:13 10 -"},
		{"hatch h = false * 1 to low in main;", "2:17 10 *"},
		{"hatch h = if i then 1 else 2 to low in main;", "2:11 10 if"},
		{"hatch h = if true then i else true to low in main;", "2:11 10 if"},
		{"hatch h = i to low in main; hatch a = not 1 to low in main; hatch b = - true to low in main;", "2:39 10 not"},
		{"hatch b = if - true then not 1 else 2 to low in main; hatch a = not 1 to low in main;", "2:14 10 neg"},
	} {
		for _, program := range []string{"main = 1;", "main = not 1;", "fun f(a) = (a, f(a)); main = release h (());"} {
			policy := points + c[0]
			if !strings.Contains(c[0], "hatch h") {
				program = strings.ReplaceAll(program, "release h", "release b")
			}
			got := tell(infer.Of(scopeOf(t, policy, "input i : {low ok}; input k : {low ok};"+program)))
			if want := "wrong the policy: " + c[1] + " the program:"; got != want {
				t.Errorf("%s: %s; want %s", c[0], got, want)
			}
		}
	}
}

// Errors of the program are the program's, also at a release.
func TestP11_1WrongPrograms(t *testing.T) {
	wantWrong(t, "main = release num (true);", "2:8 release")
	wantWrong(t, "fun f(a) = release test (a); main = f(1);", "2:37 call")
	wantWrong(t, "fun f(a) = release test (a); main = f(true) + 1;", "2:45 +")
}
