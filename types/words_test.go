package types_test

import (
	"math/rand"
	"regexp"
	"slices"
	"strconv"
	"strings"
	"testing"

	"whisper/api"
	"whisper/types"
)

// The chapter's words put on texts: each type is its text, in which an open one is a #, its number, and a ; behind it. An open type that becomes another one is replaced by it in all texts.
type texts []string

func newTexts() texts { return texts{"int", "bool", "unit"} }

func (l texts) has(a int) bool { return a >= 0 && a < len(l) }

func (l *texts) open() int {
	*l = append(*l, "#"+strconv.Itoa(len(*l))+";")
	return len(*l) - 1
}

func (l *texts) pair(a, b int) (int, api.Errno) {
	if !l.has(a) || !l.has(b) {
		return 0, api.ErrArg
	}
	*l = append(*l, "("+(*l)[a]+", "+(*l)[b]+")")
	return len(*l) - 1, api.OK
}

func (l *texts) unify(a, b int) api.Errno {
	if !l.has(a) || !l.has(b) {
		return api.ErrArg
	}
	was := len(*l)
	e := l.one(a, b)
	*l = (*l)[:was]
	return e
}

// one puts the parts of pairs behind the list, so that they are replaced as all others.
func (l *texts) one(a, b int) api.Errno {
	x, y := (*l)[a], (*l)[b]
	switch {
	case x == y:
		return api.OK
	case x[0] == '#' && !strings.Contains(y, x):
		l.replace(x, y)
		return api.OK
	case y[0] == '#' && !strings.Contains(x, y):
		l.replace(y, x)
		return api.OK
	case x[0] != '(' || y[0] != '(':
		return api.ErrType
	}
	at := len(*l)
	*l = append(append(*l, parts(x)...), parts(y)...)
	if e := l.one(at, at+2); e != api.OK {
		return e
	}
	return l.one(at+1, at+3)
}

func (l texts) replace(what, by string) {
	for i, s := range l {
		l[i] = strings.ReplaceAll(s, what, by)
	}
}

// parts is the texts of a pair's types.
func parts(pair string) []string {
	deep := 0
	for i, c := range pair {
		switch c {
		case '(':
			deep++
		case ')':
			deep--
		case ',':
			if deep == 1 {
				return []string{pair[1:i], pair[i+2 : len(pair)-1]}
			}
		}
	}
	return nil
}

var openText = regexp.MustCompile("#[0-9]+;")

func (l texts) show(list []types.Type) []string {
	var seen, out []string
	for _, a := range list {
		if !l.has(int(a)) {
			out = append(out, "")
			continue
		}
		out = append(out, openText.ReplaceAllStringFunc(l[a], func(s string) string {
			if !slices.Contains(seen, s) {
				seen = append(seen, s)
			}
			return "'" + strconv.Itoa(slices.Index(seen, s))
		}))
	}
	return out
}

func (l texts) size() int {
	n := 0
	for _, s := range l {
		n += len(s)
	}
	return n
}

// both is types and the words; what the one returns, the other must return too.
type both struct {
	x     *types.Types
	words texts
}

func newBoth() *both { return &both{types.New(), newTexts()} }

func (w *both) open(t *testing.T) {
	t.Helper()
	want := w.words.open()
	if a := w.x.Var(); int(a) != want {
		t.Fatalf("Var: %d, want %d", a, want)
	}
}

func (w *both) pair(t *testing.T, a, b int) {
	t.Helper()
	want, wantErr := w.words.pair(a, b)
	if p, e := w.x.Pair(types.Type(a), types.Type(b)); int(p) != want || e != wantErr {
		t.Fatalf("Pair(%d, %d): %d %v, want %d %v", a, b, p, e, want, wantErr)
	}
}

func (w *both) unify(t *testing.T, a, b int) api.Errno {
	t.Helper()
	was := slices.Clone(w.words)
	want := w.words.unify(a, b)
	e := w.x.Unify(types.Type(a), types.Type(b))
	if e != want {
		t.Fatalf("Unify(%d, %d) of %q: %v, want %v", a, b, was, e, want)
	}
	return e
}

// shown holds all types against the words: together, each one alone, and some in some order.
func (w *both) shown(t *testing.T, some ...types.Type) {
	t.Helper()
	var all []types.Type
	for a := range w.words {
		all = append(all, types.Type(a))
		wantShow(t, w.x, w.words.show(all[a:]), types.Type(a))
	}
	all = append(all, types.Type(len(w.words)), -1)
	wantShow(t, w.x, w.words.show(all), all...)
	wantShow(t, w.x, w.words.show(some), some...)
	if t.Failed() {
		t.FailNow()
	}
}

// TestP10_1RandomCalls has few types of which much is unified.
func TestP10_1RandomCalls(t *testing.T) {
	r := rand.New(rand.NewSource(1))
	errs := map[api.Errno]int{}
	for range 6000 {
		w := newBoth()
		for range 5 + r.Intn(25) {
			n := len(w.words)
			number := func() int { return r.Intn(n+2) - 1 }
			switch k := r.Intn(8); {
			case k < 2:
				w.open(t)
			case k < 5:
				w.pair(t, number(), number())
			default:
				errs[w.unify(t, number(), number())]++
			}
			w.shown(t, types.Type(number()), types.Type(number()), types.Type(number()), types.Type(number()))
			if w.words.size() > 4000 {
				break
			}
		}
	}
	for _, e := range []api.Errno{api.OK, api.ErrArg, api.ErrType} {
		if errs[e] < 1000 {
			t.Errorf("%v: only %d", e, errs[e])
		}
	}
}

// small has three open types, and pairs that are made of them.
func small(t *testing.T) *both {
	w := newBoth()
	for range 3 {
		w.open(t)
	}
	for _, p := range [][2]int{{3, 4}, {4, 0}, {5, 5}, {1, 3}, {6, 5}, {4, 6}} {
		w.pair(t, p[0], p[1])
	}
	return w
}

// TestP10_1AllPairsOfUnifications has each unification of some types behind each other one.
func TestP10_1AllPairsOfUnifications(t *testing.T) {
	n := len(small(t).words)
	for i := range n * n * n * n {
		w := small(t)
		w.unify(t, i%n, i/n%n)
		w.unify(t, i/n/n%n, i/n/n/n)
		var all []types.Type
		for a := n - 1; a >= 0; a-- {
			all = append(all, types.Type(a))
		}
		wantShow(t, w.x, w.words.show(all), all...)
	}
}

// TestP10_1Halfway has pairs of which some parts can be unified, and others can't.
func TestP10_1Halfway(t *testing.T) {
	r := rand.New(rand.NewSource(2))
	fails := 0
	for range 20000 {
		w := newBoth()
		for range 4 {
			w.open(t)
		}
		var l []int
		for range 2 {
			l = append(l, grow(t, w, r, 3))
		}
		if w.unify(t, l[0], l[1]) == api.ErrType {
			fails++
		}
		w.shown(t, 6, 5, 4, 3)
	}
	if fails < 2000 || fails > 18000 {
		t.Errorf("%d of 20000 can't be unified", fails)
	}
}

// grow is a type of pairs within pairs.
func grow(t *testing.T, w *both, r *rand.Rand, deep int) int {
	if deep == 0 || r.Intn(4) == 0 {
		return r.Intn(7)
	}
	a := grow(t, w, r, deep-1)
	b := grow(t, w, r, deep-1)
	w.pair(t, a, b)
	return len(w.words) - 1
}

// TestP2SameCalls has the same calls on several types, one call on each at a time, with further Shows between them.
func TestP2SameCalls(t *testing.T) {
	r := rand.New(rand.NewSource(3))
	for range 500 {
		l := []*both{newBoth(), newBoth(), newBoth()}
		for range 20 {
			n := len(l[0].words)
			k, a, b := r.Intn(3), r.Intn(n+1), r.Intn(n+1)
			for i, w := range l {
				switch k {
				case 0:
					w.open(t)
				case 1:
					w.pair(t, a, b)
				case 2:
					w.unify(t, a, b)
				}
				for range i {
					w.x.Show(types.Type(b), types.Type(a), -1)
				}
			}
			if l[0].words.size() > 4000 {
				break
			}
		}
		for _, w := range l {
			w.shown(t)
		}
	}
}
