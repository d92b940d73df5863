package value

// How far a pair is known to be right. One that is come upon while it is open is a part of itself.
type state int

const (
	unknown state = iota
	open
	closed
)

// visit is a value to be looked at, or, with its parts behind it, a pair to be closed.
type visit struct {
	v      *Value
	behind bool
}

// Right tells whether a value is one. It has a list of what is still to be looked at, and no calls within calls: pairs may be nested deeper than calls may be. Pairs are told apart by their first parts' places, so that one that stands in many places is gone through once.
func Right(v Value) bool {
	states := map[*Value]state{}
	todo := []visit{{v: &v}}
	for len(todo) > 0 {
		last := len(todo) - 1
		at := todo[last]
		todo = todo[:last]
		if !shaped(*at.v) {
			return false
		}
		if at.v.Op != couple {
			continue
		}
		first := &at.v.Kids[0]
		switch {
		case at.behind:
			states[first] = closed
		case states[first] == open:
			return false
		case states[first] == unknown:
			states[first] = open
			todo = append(todo, visit{v: at.v, behind: true}, visit{v: &at.v.Kids[1]}, visit{v: first})
		}
	}
	return true
}

// shaped tells whether a value is right, but for what its parts are.
func shaped(v Value) bool {
	switch v.Op {
	case number:
		return len(v.Kids) == 0
	case truth, untruth, nothing:
		return v.Int == 0 && len(v.Kids) == 0
	case couple:
		return v.Int == 0 && len(v.Kids) == 2
	}
	return false
}
