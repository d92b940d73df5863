package policy_test

import (
	"errors"
	"math/rand"
	"slices"
	"strconv"
	"strings"
	"testing"

	"whisper/api"
	"whisper/label"
	"whisper/order"
	"whisper/policy"
	"whisper/program"
)

// The tests of P7.2, each named after the part of it that it holds.

// wantWrong holds an error of Lattice, and what stands beside it.
func wantWrong(t *testing.T, p *policy.Policy, want api.Diag) {
	t.Helper()
	l, a, err := p.Lattice()
	var d api.Diag
	if l != (label.Lattice{}) || a != 0 || !errors.As(err, &d) || d != want || !errors.Is(err, want.Code) {
		t.Errorf("the lattice of %v: %v, %d, %v; want %v", p, l, a, err, want)
	}
}

func wantNamed(t *testing.T, s string, code api.Errno, n program.Name) {
	t.Helper()
	wantWrong(t, parse(t, s), api.Diag{Code: code, At: n.At, Name: n.Text})
}

func wantNameless(t *testing.T, s string, code api.Errno, line, col int) {
	t.Helper()
	wantWrong(t, parse(t, s), api.Diag{Code: code, At: pos(line, col)})
}

func lattice(t *testing.T, s string) (label.Lattice, int) {
	t.Helper()
	l, a, err := parse(t, s).Lattice()
	if err != nil {
		t.Fatalf("the lattice of %s: %v", short(s), err)
	}
	return l, a
}

func TestP7_2Example(t *testing.T) {
	l, a := lattice(t, "conf low, high; order low < high; integ ok, bad; order ok < bad; attacker bad;")
	if a != 1 || l.Conf.Len() != 2 || l.Integ.Len() != 2 || l.Bottom() != (api.Label{}) || l.Top() != (api.Label{Conf: 1, Integ: 1}) {
		t.Error(l, a)
	}
}

func TestP7_2NilPolicy(t *testing.T) {
	wantWrong(t, nil, api.Diag{Code: api.ErrArg})
}

// A policy that Parse didn't make has points or has none; its tree is never asked.
func TestP7_2WithoutTree(t *testing.T) {
	wantWrong(t, &policy.Policy{}, api.Diag{Code: api.ErrArg, At: pos(1, 1)})
	p := &policy.Policy{Conf: names(name("a", 3, 4)), Integ: names(name("b", 5, 6)), Attacker: name("b", 7, 8)}
	if l, a, err := p.Lattice(); err != nil || a != 0 || l.Conf.Len() != 1 || l.Integ.Len() != 1 {
		t.Error(l, a, err)
	}
	p.Attacker = program.Name{}
	wantWrong(t, p, api.Diag{Code: api.ErrName})
}

// The numbers of points go on from item to item, whatever stands between.
func TestP7_2Numbers(t *testing.T) {
	l, a := lattice(t, "order c < b; conf a, b; integ y; attacker x; order b < a; conf c; order c < d; conf d; order d < a; integ x; order x < y;")
	for _, c := range []struct {
		o    *order.Order
		want []string
	}{{l.Conf, []string{"1000", "1100", "1111", "1001"}}, {l.Integ, []string{"10", "11"}}} {
		if got := relation(c.o); !slices.Equal(got, c.want) {
			t.Errorf("an order: %v; want %v", got, c.want)
		}
	}
	if a != 1 {
		t.Error("the attacker's number:", a)
	}
	for i, s := range []string{"p", "q", "r", "s"} {
		if _, a := lattice(t, "attacker "+s+"; conf a; integ p, q; order p < q; integ r; order q < r; integ s; order r < s;"); a != i {
			t.Errorf("the attacker %s is number %d", s, a)
		}
	}
}

// relation tells, of each point, which points it is below: a row of 1 and 0.
func relation(o *order.Order) (l []string) {
	for a := range o.Len() {
		row := ""
		for b := range o.Len() {
			if o.Below(a, b) {
				row += "1"
			} else {
				row += "0"
			}
		}
		l = append(l, row)
	}
	return l
}

func TestP7_2Twice(t *testing.T) {
	wantNamed(t, "conf a, a; integ b; attacker b;", api.ErrTwice, name("a", 1, 9))
	wantNamed(t, "conf a; integ b;\nconf c, a; attacker b;", api.ErrTwice, name("a", 2, 9))
	wantNamed(t, "conf a; integ b, c, b; attacker b;", api.ErrTwice, name("b", 1, 21))
	wantNamed(t, "conf a; integ b, a; attacker b;", api.ErrTwice, name("a", 1, 18))
	wantNamed(t, "integ a; conf b, a; attacker a;", api.ErrTwice, name("a", 1, 7)) // of taint, though it comes first
	wantNamed(t, "conf a, b, b, a; integ c; attacker c;", api.ErrTwice, name("b", 1, 12))
	wantNamed(t, "integ b, b; conf a, a; attacker b;", api.ErrTwice, name("a", 1, 21)) // those of confidentiality first
	wantNamed(t, "conf a, a, a; integ c; attacker c;", api.ErrTwice, name("a", 1, 9))
}

func TestP7_2NoSuchPoint(t *testing.T) {
	wantNamed(t, "conf a; integ b; order a < c; attacker b;", api.ErrName, name("c", 1, 28))
	wantNamed(t, "conf a; integ b; order c < a; attacker b;", api.ErrName, name("c", 1, 24))
	wantNamed(t, "conf a; integ b; order d < c; attacker b;", api.ErrName, name("d", 1, 24))
	wantNamed(t, "conf a; integ b; order b < c; order d < a; attacker b;", api.ErrName, name("c", 1, 28))
	wantNamed(t, "conf a; integ b; order c < b; attacker b;", api.ErrName, name("c", 1, 24))
	wantNamed(t, "conf a; integ b; order c < c; attacker c;", api.ErrName, name("c", 1, 24))
	wantNamed(t, "order a < b; attacker b;", api.ErrName, name("a", 1, 7)) // ahead of the error that there are no points
}

func TestP7_2OtherKind(t *testing.T) {
	wantNamed(t, "conf a; integ b; order a < b; attacker b;", api.ErrKind, name("b", 1, 28))
	wantNamed(t, "conf a; integ b; order b < a; attacker b;", api.ErrKind, name("b", 1, 24))
	wantNamed(t, "conf a, c; integ b; order b < b; order c < b; order b < a; attacker b;", api.ErrKind, name("b", 1, 44))
	wantNamed(t, "integ b; conf a; order b < a; order a < b; attacker b;", api.ErrKind, name("b", 1, 24))
	l, _ := lattice(t, "conf a, c; integ b, d; order b < d; order a < c; attacker b;") // no item has both kinds
	if l.Conf.Len() != 2 || l.Integ.Len() != 2 {
		t.Error(l)
	}
}

// chain is that many points of a kind, each below the next one.
func chain(kind, point string, n int) string {
	s := kind + " " + point + "0"
	order := ""
	for i := 1; i < n; i++ {
		s += ", " + point + strconv.Itoa(i)
		order += "order " + point + strconv.Itoa(i-1) + " < " + point + strconv.Itoa(i) + "; "
	}
	return s + "; " + order
}

func TestP7_2OrderErrors(t *testing.T) {
	// no points
	wantNameless(t, "attacker b;", api.ErrArg, 1, 1)
	wantNameless(t, "\n\n integ b; attacker b;", api.ErrArg, 1, 1)
	wantNameless(t, "\n\n conf b; attacker b;", api.ErrArg, 1, 1)
	// too many of them
	l, a := lattice(t, chain("conf", "c", 32)+chain("integ", "i", 32)+"attacker i31;")
	if a != 31 || l.Top() != (api.Label{Conf: 31, Integ: 31}) || l.Bottom() != (api.Label{}) {
		t.Error("32 points of each kind:", l, a)
	}
	wantNameless(t, "integ b; attacker b;\n"+chain("conf", "c", 33), api.ErrArg, 2, 6)
	wantNameless(t, "conf b; attacker i0;\n"+chain("integ", "i", 33), api.ErrArg, 2, 7)
	// no lattice: points apart, a cycle, two without a join
	for _, s := range []string{"; ", "; order a < b; order b < a; ", ", c; order a < b; order a < c; ", ", c; order b < a; order c < a; ", ", c; order a < c; order c < b; order b < c; "} {
		wantNameless(t, "integ i; attacker i; conf a, b"+s, api.ErrOrder, 1, 27)
		wantNameless(t, "conf i; attacker a;\nconf j; order i < j; integ a, b"+s, api.ErrOrder, 2, 28)
	}
	wantNameless(t, "conf p, q, a, b, z; order p < a; order p < b; order q < a; order q < b; order a < z; order b < z; integ i; attacker i;", api.ErrOrder, 1, 6)
}

func TestP7_2NoSuchAttacker(t *testing.T) {
	wantNamed(t, "conf a; integ b; attacker c;", api.ErrName, name("c", 1, 27))
	wantNamed(t, "conf a; integ b; attacker a;", api.ErrName, name("a", 1, 27))
	wantNamed(t, "attacker\n a; conf a; integ b;", api.ErrName, name("a", 2, 2))
}

// Each text has the errors of those behind it as well.
func TestP7_2FirstError(t *testing.T) {
	const attacker = "attacker a0; "
	taint := "integ t, u; " + attacker
	conf := "conf a0, c; " + taint
	kind := conf + "order c < u; order t < a0; "
	missing := kind + "order x < y; "
	again := missing + "integ t; "
	wantNamed(t, "conf a0; integ t; "+attacker, api.ErrName, name("a0", 1, 28))
	wantNameless(t, "conf a0; "+taint, api.ErrOrder, 1, 16)
	wantNameless(t, conf, api.ErrOrder, 1, 6)
	wantNamed(t, kind, api.ErrKind, name("u", 1, 48))
	wantNamed(t, missing, api.ErrName, name("x", 1, 71))
	wantNamed(t, again, api.ErrTwice, name("t", 1, 84))
	wantNamed(t, again+"conf c;", api.ErrTwice, name("c", 1, 92))
	wantNamed(t, "conf t; "+again, api.ErrTwice, name("t", 1, 27))
	wantNameless(t, "integ t, u; attacker x;", api.ErrArg, 1, 1)
	wantNameless(t, chain("integ", "i", 33)+"\nconf a, b; attacker x;", api.ErrOrder, 2, 6)
}

// byWords is what P7.2's words say of a policy: its error, or which points are below which, and the attacker's number.
func byWords(p *policy.Policy) (conf, integ []string, attacker int, d api.Diag) {
	about := func(code api.Errno, n program.Name) api.Diag { return api.Diag{Code: code, At: n.At, Name: n.Text} }
	both := slices.Concat(p.Conf, p.Integ)
	for i, n := range both {
		if policy.Point(both[:i], n.Text) >= 0 {
			return nil, nil, 0, about(api.ErrTwice, n)
		}
	}
	for _, pair := range p.Order {
		for _, n := range pair {
			if policy.Point(both, n.Text) < 0 {
				return nil, nil, 0, about(api.ErrName, n)
			}
		}
	}
	var told [2][]string
	kinds := [2][]program.Name{p.Conf, p.Integ}
	for k, kind := range kinds {
		for _, pair := range p.Order {
			for side, n := range pair {
				if policy.Point(kinds[1-k], n.Text) >= 0 && policy.Point(kind, pair[1-side].Text) >= 0 {
					return nil, nil, 0, about(api.ErrKind, n)
				}
			}
		}
		var code api.Errno
		if told[k], code = orderByWords(kind, p.Order); code != api.OK {
			return nil, nil, 0, api.Diag{Code: code, At: append(slices.Clone(kind), name("", 1, 1))[0].At}
		}
	}
	attacker = policy.Point(p.Integ, p.Attacker.Text)
	if attacker < 0 {
		return nil, nil, 0, about(api.ErrName, p.Attacker)
	}
	return told[0], told[1], attacker, api.Diag{}
}

// orderByWords gives layer 1 each pair that is below by the items' names, over any number of others.
func orderByWords(kind []program.Name, items [][2]program.Name) ([]string, api.Errno) {
	var pairs [][2]int
	var reach func(from, s string, seen []string)
	reach = func(from, s string, seen []string) {
		if slices.Contains(seen, s) {
			return
		}
		pairs = append(pairs, [2]int{policy.Point(kind, from), policy.Point(kind, s)})
		for _, item := range items {
			if item[0].Text == s {
				reach(from, item[1].Text, append(seen, s))
			}
		}
	}
	for _, n := range kind {
		reach(n.Text, n.Text, nil)
	}
	o, code := order.New(len(kind), pairs...)
	return relation(o), code
}

func holdLattice(t *testing.T, p *policy.Policy) api.Errno {
	t.Helper()
	conf, integ, attacker, d := byWords(p)
	if d != (api.Diag{}) {
		wantWrong(t, p, d)
		return d.Code
	}
	l, a, err := p.Lattice()
	if err != nil || a != attacker || !slices.Equal(relation(l.Conf), conf) || !slices.Equal(relation(l.Integ), integ) {
		t.Errorf("the lattice of %v: %v %v, %d, %v; want %v %v, %d", p, relation(l.Conf), relation(l.Integ), a, err, conf, integ, attacker)
	}
	return api.OK
}

// policyOf is the policy of these names, each at a position of its own.
func policyOf(conf, integ string, pairs []string, attacker string) *policy.Policy {
	p, line := &policy.Policy{}, 0
	one := func(s string) program.Name {
		line++
		return name(s, line, 2*line)
	}
	list := func(s string) (l []program.Name) {
		for _, c := range s {
			l = append(l, one(string(c)))
		}
		return l
	}
	p.Integ, p.Conf = list(integ), list(conf)
	for _, s := range pairs {
		p.Order = append(p.Order, [2]program.Name{one(s[:1]), one(s[1:])})
	}
	p.Attacker = one(attacker)
	return p
}

// All policies of at most two points of each kind, and two order items, of four names.
func TestP7_2SmallPolicies(t *testing.T) {
	points := func(s string) []string {
		l := []string{""}
		for _, a := range strings.Split(s, "") {
			l = append(l, a)
			for _, b := range strings.Split(s, "") {
				l = append(l, a+b)
			}
		}
		return l
	}
	var orders [][]string
	for _, a := range points("abxy") {
		for _, b := range points("abxy") {
			if l := slices.DeleteFunc([]string{a, b}, func(s string) bool { return len(s) < 2 }); len(a) != 1 && len(b) != 1 {
				orders = append(orders, l)
			}
		}
	}
	codes := map[api.Errno]int{}
	for _, conf := range points("abx") {
		for _, integ := range points("xya") {
			for _, pairs := range orders {
				for _, attacker := range []string{"a", "x", "y"} {
					codes[holdLattice(t, policyOf(conf, integ, pairs, attacker))]++
				}
			}
		}
	}
	wantEach(t, codes, api.OK, api.ErrArg, api.ErrOrder, api.ErrName, api.ErrTwice, api.ErrKind)
}

// Policies of up to 6 points of each kind, most often with orders that may be lattices.
func TestP7_2RandomPolicies(t *testing.T) {
	rnd := rand.New(rand.NewSource(72))
	codes := map[api.Errno]int{}
	for range 20000 {
		conf, integ := "abcdef"[:1+rnd.Intn(6)], "uvwxyz"[:1+rnd.Intn(6)]
		var pairs []string
		for _, s := range []string{conf, integ} {
			for i := range s {
				pairs = append(pairs, s[i/2:i/2+1]+s[i:i+1], s[i:i+1]+s[min(i+1, len(s)-1):][:1])
			}
		}
		rnd.Shuffle(len(pairs), func(i, j int) { pairs[i], pairs[j] = pairs[j], pairs[i] })
		pairs = pairs[:len(pairs)-rnd.Intn(3)]
		if rnd.Intn(4) == 0 {
			all := conf + integ + "g"
			i, j := rnd.Intn(len(all)), rnd.Intn(len(all))
			pairs = append(pairs, all[i:i+1]+all[j:j+1])
		}
		attacker := (integ + integ + integ + "a")[rnd.Intn(3*len(integ)+1):][:1]
		codes[holdLattice(t, policyOf(conf, integ, pairs, attacker))]++
	}
	wantEach(t, codes, api.OK, api.ErrOrder, api.ErrName, api.ErrKind)
}

// P2, and the third rule: a policy is only read, and answers share nothing with it.
func TestP2Lattice(t *testing.T) {
	const s = "conf a, b; integ c, d; order a < b; order c < d; attacker d; hatch h = x to a in f;"
	p := parse(t, s)
	l, a, err := p.Lattice()
	wantPolicy(t, s, *p)
	p.Conf[0], p.Order[0] = p.Conf[1], [2]program.Name{}
	p.Lattice()
	if err != nil || a != 1 || !slices.Equal(relation(l.Conf), []string{"11", "01"}) || !slices.Equal(relation(l.Integ), []string{"11", "01"}) {
		t.Error("a lattice that changed with its policy:", relation(l.Conf), relation(l.Integ), a, err)
	}
	p = parse(t, s)
	for range 3 {
		again, b, err := p.Lattice()
		if err != nil || b != a || !slices.Equal(relation(again.Conf), relation(l.Conf)) || again.Conf == again.Integ {
			t.Error("the same call, another answer:", again, b, err)
		}
	}
}

// A text may have thousands of points: that all of them are looked at must not take long.
func TestP7_2ManyPoints(t *testing.T) {
	var b strings.Builder
	b.WriteString("attacker t; integ t; conf c")
	for i := range 9000 {
		b.WriteString(",")
		b.WriteString("a" + strconv.Itoa(i))
	}
	s := b.String()
	wantNameless(t, s+";", api.ErrArg, 1, 27)
	wantNamed(t, s+",a8999;", api.ErrTwice, name("a8999", 1, len(s)+2))
	wantNamed(t, s+"; order a8999 < t;", api.ErrKind, name("t", 1, len(s)+17))
}
