package lex_test

import (
	"errors"
	"regexp"
	"slices"
	"strconv"
	"strings"
	"testing"
	"unicode/utf8"

	"whisper/api"
	"whisper/lex"
)

// The tests of P3.1, each named after the part of it that it holds.

// keywords is as the chapter lists them.
const keywords = "let in if then else try with out raise true false not and or fst snd release hole input global channel exception fun main conf integ order attacker hatch to"

func pos(line, col int) api.Pos { return api.Pos{Line: line, Col: col} }

func name(s string, line, col int) lex.Token {
	return lex.Token{Kind: lex.Name, Text: s, At: pos(line, col)}
}

func word(s string, line, col int) lex.Token {
	return lex.Token{Kind: lex.Word, Text: s, At: pos(line, col)}
}

func mark(s string, line, col int) lex.Token {
	return lex.Token{Kind: lex.Mark, Text: s, At: pos(line, col)}
}

func number(s string, n int64, line, col int) lex.Token {
	return lex.Token{Kind: lex.Number, Text: s, Int: n, At: pos(line, col)}
}

func end(line, col int) lex.Token { return lex.Token{Kind: lex.End, At: pos(line, col)} }

func short(s string) string {
	if len(s) > 60 {
		return strconv.Quote(s[:60]) + ".. (" + strconv.Itoa(len(s)) + " bytes)"
	}
	return strconv.Quote(s)
}

func wantTokens(t *testing.T, s string, want ...lex.Token) {
	t.Helper()
	got, err := lex.Tokens(s)
	if err != nil || !slices.Equal(got, want) {
		t.Errorf("Tokens(%s) = %v, %v; want %v", short(s), got, err, want)
	}
}

func wantError(t *testing.T, s string, code api.Errno, line, col int) {
	t.Helper()
	got, err := lex.Tokens(s)
	var d api.Diag
	if !errors.As(err, &d) || d != (api.Diag{Code: code, At: pos(line, col)}) {
		t.Errorf("Tokens(%s): the error is %v; want %v at %d:%d", short(s), err, code, line, col)
		return
	}
	if !errors.Is(err, code) {
		t.Errorf("Tokens(%s): errors.Is doesn't find the code of %v", short(s), err)
	}
	if len(got) != 0 {
		t.Errorf("Tokens(%s): %d tokens beside an error", short(s), len(got))
	}
}

func TestP3_1Kinds(t *testing.T) {
	kinds := []lex.Kind{lex.End, lex.Name, lex.Word, lex.Number, lex.Mark}
	for i, k := range kinds {
		if int(k) != i {
			t.Errorf("the kind of place %d is %d", i, k)
		}
	}
}

func TestP3_1Example(t *testing.T) {
	wantTokens(t, "let x := 1 # y", word("let", 1, 1), name("x", 1, 5), mark(":=", 1, 7), number("1", 1, 1, 10), end(1, 15))
}

func TestP3_1Nothing(t *testing.T) {
	wantTokens(t, "", end(1, 1))
	wantTokens(t, "   ", end(1, 4))
	wantTokens(t, " \t\r", end(1, 4))
	wantTokens(t, "\n", end(2, 1))
	wantTokens(t, " \n\t\r\n  ", end(3, 3))
	wantTokens(t, "#", end(1, 2))
	wantTokens(t, "# let x := 1", end(1, 13))
	wantTokens(t, "# a # b ## c", end(1, 13))
	wantTokens(t, "# a\n", end(2, 1))
	wantTokens(t, "#\n#\n ##", end(3, 4))
}

func TestP3_1Comments(t *testing.T) {
	wantTokens(t, "a#b\nc", name("a", 1, 1), name("c", 2, 1), end(2, 2))
	wantTokens(t, "a # \t\r ? $ \x00 \x7f\n# b\n\n  c#", name("a", 1, 1), name("c", 4, 3), end(4, 5))
	wantTokens(t, "# a\rb", end(1, 6))
	wantTokens(t, "#a\r\nb", name("b", 2, 1), end(2, 2))
}

func TestP3_1Blanks(t *testing.T) {
	wantTokens(t, "a b\tc\rd\ne", name("a", 1, 1), name("b", 1, 3), name("c", 1, 5), name("d", 1, 7), name("e", 2, 1), end(2, 2))
	wantTokens(t, "a\r\nb", name("a", 1, 1), name("b", 2, 1), end(2, 2))
	for _, s := range []string{"\v", "\f", "\x00", "\x7f", "\u0085", "\u00a0", "\u2028", "\u3000", "\ufeff"} {
		wantError(t, s, api.ErrToken, 1, 1)
		wantError(t, "a\n "+s+"b", api.ErrToken, 2, 2)
	}
}

func TestP3_1Names(t *testing.T) {
	for _, s := range []string{"a", "z", "A", "Z", "_", "__", "_1", "a0", "x9y", "Let", "LET", "lets", "let_", "_let", "let1", "i", "tox", "azAZ_09"} {
		wantTokens(t, s, name(s, 1, 1), end(1, len(s)+1))
	}
	wantTokens(t, "1a", number("1", 1, 1, 1), name("a", 1, 2), end(1, 3))
	wantTokens(t, "12_3", number("12", 12, 1, 1), name("_3", 1, 3), end(1, 5))
	wantTokens(t, "9let", number("9", 9, 1, 1), word("let", 1, 2), end(1, 5))
	wantTokens(t, "a(b", name("a", 1, 1), mark("(", 1, 2), name("b", 1, 3), end(1, 4))
}

func TestP3_1LongNames(t *testing.T) {
	for _, first := range []string{"a", "_", "Z"} {
		longest := first + strings.Repeat("9", 39)
		wantTokens(t, longest, name(longest, 1, 1), end(1, 41))
		wantTokens(t, longest+" "+longest, name(longest, 1, 1), name(longest, 1, 42), end(1, 82))
		wantError(t, longest+"_", api.ErrLimit, 1, 1)
		wantError(t, "\n # \n  "+longest+"0;", api.ErrLimit, 3, 3)
	}
	wantError(t, strings.Repeat("a", api.MaxBytes), api.ErrLimit, 1, 1)
}

func TestP3_1Words(t *testing.T) {
	for _, s := range strings.Fields(keywords) {
		wantTokens(t, s, word(s, 1, 1), end(1, len(s)+1))
		wantTokens(t, "("+s+")", mark("(", 1, 1), word(s, 1, 2), mark(")", 1, len(s)+2), end(1, len(s)+3))
		wantTokens(t, s+"s", name(s+"s", 1, 1), end(1, len(s)+2))
	}
}

func TestP3_1Own(t *testing.T) {
	for _, s := range strings.Fields(keywords) {
		if !lex.Own(s) {
			t.Errorf("Own(%q) is false", s)
		}
		for _, no := range []string{s + " ", " " + s, s + "x", s + s, strings.ToUpper(s), s + "\x00"} {
			if lex.Own(no) {
				t.Errorf("Own(%q) is true", no)
			}
		}
	}
	for _, no := range []string{"", "x", "le", "end", "from", "End", ":=", "->", "1", "\xff", "do", "while", keywords} {
		if lex.Own(no) {
			t.Errorf("Own(%q) is true", no)
		}
	}
}

func TestP3_1Numbers(t *testing.T) {
	wantTokens(t, "0", number("0", 0, 1, 1), end(1, 2))
	wantTokens(t, "007", number("007", 7, 1, 1), end(1, 4))
	wantTokens(t, "1234567890", number("1234567890", 1234567890, 1, 1), end(1, 11))
	wantTokens(t, "-5", mark("-", 1, 1), number("5", 5, 1, 2), end(1, 3))
	wantTokens(t, "1 2", number("1", 1, 1, 1), number("2", 2, 1, 3), end(1, 4))
	wantError(t, "1.5", api.ErrToken, 1, 2)
	wantError(t, "٣", api.ErrToken, 1, 1)
}

func TestP3_1LongNumbers(t *testing.T) {
	nines := strings.Repeat("9", 18)
	zeros := strings.Repeat("0", 18)
	wantTokens(t, nines, number(nines, 999999999999999999, 1, 1), end(1, 19))
	wantTokens(t, zeros, number(zeros, 0, 1, 1), end(1, 19))
	wantTokens(t, zeros[1:]+"1", number(zeros[1:]+"1", 1, 1, 1), end(1, 19))
	wantTokens(t, nines+"a", number(nines, 999999999999999999, 1, 1), name("a", 1, 19), end(1, 20))
	wantError(t, nines+"9", api.ErrLimit, 1, 1)
	wantError(t, zeros+"0", api.ErrLimit, 1, 1)
	wantError(t, zeros+"1", api.ErrLimit, 1, 1)
	wantError(t, "a\n -"+nines+"9b", api.ErrLimit, 2, 3)
	wantError(t, strings.Repeat("1", api.MaxBytes), api.ErrLimit, 1, 1)
}

func TestP3_1Marks(t *testing.T) {
	for _, s := range []string{":=", "->", "(", ")", "{", "}", ",", ";", ":", "!", "+", "-", "*", "=", "<"} {
		wantTokens(t, s, mark(s, 1, 1), end(1, len(s)+1))
		wantTokens(t, "a"+s+"1", name("a", 1, 1), mark(s, 1, 2), number("1", 1, 1, len(s)+2), end(1, len(s)+3))
	}
}

func TestP3_1LongMarks(t *testing.T) {
	wantTokens(t, ": =", mark(":", 1, 1), mark("=", 1, 3), end(1, 4))
	wantTokens(t, ":\n=", mark(":", 1, 1), mark("=", 2, 1), end(2, 2))
	wantTokens(t, "::=", mark(":", 1, 1), mark(":=", 1, 2), end(1, 4))
	wantTokens(t, ":==", mark(":=", 1, 1), mark("=", 1, 3), end(1, 4))
	wantTokens(t, ":=:=", mark(":=", 1, 1), mark(":=", 1, 3), end(1, 5))
	wantTokens(t, "=:", mark("=", 1, 1), mark(":", 1, 2), end(1, 3))
	wantTokens(t, "-->", mark("-", 1, 1), mark("->", 1, 2), end(1, 4))
	wantTokens(t, "->-", mark("->", 1, 1), mark("-", 1, 3), end(1, 4))
	wantTokens(t, "<-:->", mark("<", 1, 1), mark("-", 1, 2), mark(":", 1, 3), mark("->", 1, 4), end(1, 6))
	wantError(t, "- >", api.ErrToken, 1, 3)
	wantError(t, "->>", api.ErrToken, 1, 3)
	wantError(t, "=>", api.ErrToken, 1, 2)
	wantError(t, ">", api.ErrToken, 1, 1)
}

func TestP3_1Positions(t *testing.T) {
	wantTokens(t, "# é€😀", end(1, 6))
	wantTokens(t, "# é\n x # 😀😀", name("x", 2, 2), end(2, 8))
	wantTokens(t, "#\ufffd\ufeff", end(1, 4))
	wantTokens(t, "a\n\n\tb", name("a", 1, 1), name("b", 3, 2), end(3, 3))
	wantError(t, "#é\n#€€\xff", api.ErrText, 2, 4)
	wantError(t, "#é\nxé", api.ErrToken, 2, 2)
}

func TestP3_1NotUTF8(t *testing.T) {
	for _, s := range []string{
		"\x80", "\xbf", "\xff", "\xfe", "\xf8\x88\x80\x80\x80", // no beginnings
		"\xc3", "\xe2\x82", "\xf0\x9f\x98", "\xc3(", "\xe2\x82a", // cut off
		"\xc0\x80", "\xc1\xbf", "\xe0\x80\x80", "\xf0\x80\x80\x80", // longer than need be
		"\xed\xa0\x80", "\xed\xbf\xbf", "\xf4\x90\x80\x80", "\xf5\x80\x80\x80", // no code points
	} {
		wantError(t, s, api.ErrText, 1, 1)
		wantError(t, "let "+s, api.ErrText, 1, 5)
		wantError(t, "# é "+s+" é", api.ErrText, 1, 5)
		wantError(t, "a\n\r"+s+"\n"+s, api.ErrText, 2, 2)
	}
	wantError(t, "\ufffd", api.ErrToken, 1, 1)
	wantError(t, "\ufffd\xff", api.ErrText, 1, 2)
	wantError(t, "é", api.ErrToken, 1, 1)
}

func TestP3_1NoToken(t *testing.T) {
	for _, s := range []string{"$", "?", "\"", "'", "%", "&", "|", "/", "\\", "[", "]", "^", "`", "~", "@", ".", ">", "\x00", "\x1f", "\x7f", "é", "😀"} {
		wantError(t, s, api.ErrToken, 1, 1)
		wantError(t, "let x1"+s+"y", api.ErrToken, 1, 7)
		wantError(t, "a\n(7"+s, api.ErrToken, 2, 3)
	}
}

func TestP3_1Bytes(t *testing.T) {
	wantTokens(t, strings.Repeat(" ", api.MaxBytes), end(1, api.MaxBytes+1))
	wantTokens(t, strings.Repeat("\n", api.MaxBytes), end(api.MaxBytes+1, 1))
	wantTokens(t, "#"+strings.Repeat("€", 21845), end(1, 21847))
	all, err := lex.Tokens(strings.Repeat(";", api.MaxBytes))
	if err != nil || len(all) != api.MaxBytes+1 || all[api.MaxBytes] != end(1, api.MaxBytes+1) {
		t.Errorf("%d marks have %d tokens, %v", api.MaxBytes, len(all), err)
	}
	for _, s := range []string{" ", "\n", "#", ";", "a", "\xff", "$"} {
		wantError(t, strings.Repeat(s, api.MaxBytes+1), api.ErrLimit, 1, 1)
	}
	wantError(t, "#"+strings.Repeat("€", 21845)+"\n", api.ErrLimit, 1, 1)
	wantError(t, strings.Repeat("\n", 4*api.MaxBytes), api.ErrLimit, 1, 1)
}

func TestP3_1FirstError(t *testing.T) {
	long := strings.Repeat("x", 41)
	digits := strings.Repeat("1", 19)
	wantError(t, "$ "+long+" \xff"+strings.Repeat("\n", api.MaxBytes), api.ErrLimit, 1, 1)
	wantError(t, "$ "+long+"\n "+digits+" \xff", api.ErrText, 2, 22)
	wantError(t, "$ \xff # \xff", api.ErrText, 1, 3)
	wantError(t, "a $ "+long, api.ErrToken, 1, 3)
	wantError(t, "a "+long+" $", api.ErrLimit, 1, 3)
	wantError(t, "a\n"+digits+long+"$", api.ErrLimit, 2, 1)
	wantError(t, "a\n\t"+long+" "+digits, api.ErrLimit, 2, 2)
	wantError(t, "? $", api.ErrToken, 1, 1)
}

// The rest holds Tokens against the chapter's words, put as patterns, on many texts.

var (
	skipped = regexp.MustCompile(`^([ \t\r\n]|#[^\n]*)*`)
	token   = regexp.MustCompile(`^([A-Za-z_][0-9A-Za-z_]*|[0-9]+|:=|->|[(){},;:!+*=<-])`)
	long    = regexp.MustCompile(`[0-9A-Za-z_]{19}`)
)

// place is the position of an offset.
func place(s string, n int) api.Pos {
	line := strings.LastIndexByte(s[:n], '\n') + 1
	return pos(strings.Count(s[:n], "\n")+1, utf8.RuneCountInString(s[line:n])+1)
}

// wordsOfChapter is what Tokens must return for a text that has nothing too long.
func wordsOfChapter(s string) ([]lex.Token, api.Diag) {
	for i, c := range s {
		if c == utf8.RuneError && !strings.HasPrefix(s[i:], "\ufffd") {
			return nil, api.Diag{Code: api.ErrText, At: place(s, i)}
		}
	}
	var all []lex.Token
	n := 0
	for {
		n += len(skipped.FindString(s[n:]))
		if n == len(s) {
			return append(all, lex.Token{At: place(s, n)}), api.Diag{}
		}
		x := lex.Token{Text: token.FindString(s[n:]), At: place(s, n)}
		switch {
		case x.Text == "":
			return nil, api.Diag{Code: api.ErrToken, At: x.At}
		case x.Text[0] >= '0' && x.Text[0] <= '9':
			x.Kind = lex.Number
			x.Int, _ = strconv.ParseInt(x.Text, 10, 64)
		case slices.Contains(strings.Fields(keywords), x.Text):
			x.Kind = lex.Word
		case strings.ContainsAny(x.Text[:1], "(){},;:!+-*=<"):
			x.Kind = lex.Mark
		default:
			x.Kind = lex.Name
		}
		n += len(x.Text)
		all = append(all, x)
	}
}

func holdAgainstChapter(t *testing.T, s string) {
	t.Helper()
	want, wrong := wordsOfChapter(s)
	if wrong.Code != api.OK {
		wantError(t, s, wrong.Code, wrong.At.Line, wrong.At.Col)
	} else {
		wantTokens(t, s, want...)
	}
}

func TestP3_1PairsOfBytes(t *testing.T) {
	for a := range 256 {
		holdAgainstChapter(t, string([]byte{byte(a)}))
		for b := range 256 {
			holdAgainstChapter(t, string([]byte{byte(a), byte(b)}))
		}
	}
}

func TestP3_1Texts(t *testing.T) {
	pieces := []string{"a", "_", "to", "7", " ", "\n", "\r", "#", ":", "=", "-", ">", "(", "é", "\xff"}
	var grow func(s string, left int)
	grow = func(s string, left int) {
		holdAgainstChapter(t, s)
		for _, p := range pieces {
			if left > 0 {
				grow(s+p, left-1)
			}
		}
	}
	grow("", 4)
}

func FuzzP3_1(f *testing.F) {
	f.Add("let x := 1 # y")
	f.Add("if a1<-2 # é é\n\tthen{x}->\xff")
	f.Fuzz(func(t *testing.T, s string) {
		if len(s) <= api.MaxBytes && !long.MatchString(s) {
			holdAgainstChapter(t, s)
		}
	})
}

func TestP2Apart(t *testing.T) {
	s := "let x := 1"
	first, _ := lex.Tokens(s)
	second, _ := lex.Tokens(s)
	want := slices.Clone(second)
	for i := range first {
		first[i] = lex.Token{Text: "changed"}
	}
	if !slices.Equal(second, want) {
		t.Error("two results share memory")
	}
	wantTokens(t, s, want...)
	wantError(t, "$", api.ErrToken, 1, 1)
	wantTokens(t, s, want...)
}
