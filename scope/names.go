package scope

import (
	"slices"

	"whisper/policy"
	"whisper/program"
)

// places is the names of a list, each with the place of the first one that has it.
type places map[string]int

func (l places) has(name string) bool {
	_, ok := l[name]
	return ok
}

// The names of what is declared, and of a parameter.

func declName(d program.Decl) program.Name  { return d.Name }
func funName(f program.Fun) program.Name    { return f.Name }
func hatchName(h policy.Hatch) program.Name { return h.Name }
func paramName(n program.Name) program.Name { return n }

// find is the place of the first one with a name; below 0: there is none.
func find[T any](name string, l []T, nameOf func(T) program.Name) int {
	return slices.IndexFunc(l, func(x T) bool { return nameOf(x).Text == name })
}

// declared is the names of a list; those that an earlier one has are reported.
func declared[T any](r *report, k kind, l []T, nameOf func(T) program.Name) places {
	first := places{}
	for i, x := range l {
		n := nameOf(x)
		if first.has(n.Text) {
			r.add(k, n)
		} else {
			first[n.Text] = i
		}
	}
	return first
}
