package types

import (
	"slices"

	"whisper/api"
)

// step is two types that are to be unified; or two pairs whose parts are unified by then.
type step struct {
	a, b  Type
	parts bool
}

// Unify lets two be one. What is still to be done is a list, not calls within calls: pairs may be nested deeper than calls may be.
func (t *Types) Unify(a, b Type) api.Errno {
	if !t.has(a) || !t.has(b) {
		return api.ErrArg
	}
	todo, ok := []step{{a: a, b: b}}, true
	for ok && len(todo) > 0 {
		last := len(todo) - 1
		todo, ok = t.unify(todo[last], todo[:last])
	}
	if !ok {
		return api.ErrType
	}
	return api.OK
}

// unify takes a step; it adds those that must follow, the last one first. False: the two can't be unified.
func (t *Types) unify(s step, todo []step) ([]step, bool) {
	a, b := t.now(s.a), t.now(s.b)
	x, y := t.get(a), t.get(b)
	switch {
	case a == b:
	case s.parts:
		// Pairs that are alike become one, so that pairs which share parts aren't gone through once for each place of these.
		t.become(a, b)
	case x.kind == open && !t.occurs(a, b):
		t.become(a, b)
	case y.kind == open && !t.occurs(b, a):
		t.become(b, a)
	case x.kind == pair && y.kind == pair:
		todo = append(todo, step{a: a, b: b, parts: true}, step{a: x.second, b: y.second}, step{a: x.first, b: y.first})
	default:
		return nil, false
	}
	return todo, true
}

func (t *Types) become(a, b Type) {
	t.set(a, node{kind: became, first: b})
}

// occurs tells whether an open type is a part of another type.
func (t *Types) occurs(a, b Type) bool {
	return slices.Contains(t.within(b), a)
}

// within is a type and the added ones that occur in it, each once, however many places it has: these may double with every pair around it.
func (t *Types) within(a Type) []Type {
	l := []Type{a}
	for i := 0; i < len(l); i++ {
		n := t.get(l[i])
		if n.kind == pair {
			l = t.addUnseen(l, n.first)
			l = t.addUnseen(l, n.second)
		}
	}
	for _, b := range l[1:] {
		t.added[b-firstAdded].seen = false
	}
	return l
}

func (t *Types) addUnseen(l []Type, a Type) []Type {
	a = t.now(a)
	if a < firstAdded || t.get(a).seen {
		return l
	}
	t.added[a-firstAdded].seen = true
	return append(l, a)
}
