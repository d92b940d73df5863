package value

// parts is where both lists of parts of two values begin, and how many parts each of them has.
type parts struct {
	a, b *Value
	n    int
}

// Same tells whether two are one. It has a list of what is still to be held against each other, and no calls within calls: Kids may be nested deeper than calls may be. Two lists of parts that stand in many places are gone through once.
func Same(a, b Value) bool {
	seen := map[parts]struct{}{}
	todo := [][2]*Value{{&a, &b}}
	for len(todo) > 0 {
		last := len(todo) - 1
		x, y := todo[last][0], todo[last][1]
		todo = todo[:last]
		if x.Op != y.Op || x.Int != y.Int || len(x.Kids) != len(y.Kids) {
			return false
		}
		if len(x.Kids) == 0 {
			continue
		}
		both := parts{&x.Kids[0], &y.Kids[0], len(x.Kids)}
		if _, ok := seen[both]; ok {
			continue
		}
		seen[both] = struct{}{}
		for i := range x.Kids {
			todo = append(todo, [2]*Value{&x.Kids[i], &y.Kids[i]})
		}
	}
	return true
}
