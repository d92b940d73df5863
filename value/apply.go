package value

import "whisper/api"

// Apply is what an Op makes of values.
func Apply(op string, l ...Value) (Value, api.Errno) {
	for _, v := range l {
		if !Right(v) {
			return Value{}, api.ErrArg
		}
	}
	switch len(l) {
	case 1:
		return ofOne(op, l[0])
	case 2:
		return ofTwo(op, l[0], l[1])
	}
	return Value{}, api.ErrType
}

func ofOne(op string, v Value) (Value, api.Errno) {
	switch {
	case op == "neg" && v.Op == number:
		return Int(-v.Int), api.OK
	case op == "not" && isTruth(v):
		return Bool(v.Op == untruth), api.OK
	case op == "fst" && v.Op == couple:
		return separate(v.Kids[0]), api.OK
	case op == "snd" && v.Op == couple:
		return separate(v.Kids[1]), api.OK
	}
	return Value{}, api.ErrType
}

func ofTwo(op string, a, b Value) (Value, api.Errno) {
	switch {
	case op == couple:
		return pair(a, b)
	case a.Op == number && b.Op == number:
		return ofNumbers(op, a.Int, b.Int)
	case isTruth(a) && isTruth(b):
		return ofTruths(op, a.Op == truth, b.Op == truth)
	}
	return Value{}, api.ErrType
}

func ofNumbers(op string, a, b int64) (Value, api.Errno) {
	switch op {
	case "+":
		return Int(a + b), api.OK
	case "-":
		return Int(a - b), api.OK
	case "*":
		return Int(a * b), api.OK
	case "=":
		return Bool(a == b), api.OK
	case "<":
		return Bool(a < b), api.OK
	}
	return Value{}, api.ErrType
}

func ofTruths(op string, a, b bool) (Value, api.Errno) {
	switch op {
	case "and":
		return Bool(a && b), api.OK
	case "or":
		return Bool(a || b), api.OK
	}
	return Value{}, api.ErrType
}

func pair(a, b Value) (Value, api.Errno) {
	v := Value{Op: couple, Kids: []Value{a, b}}
	if big(v) {
		return Value{}, api.ErrLimit
	}
	return separate(v), api.OK
}

func isTruth(v Value) bool { return v.Op == truth || v.Op == untruth }

// big tells whether a value has too many parts. It counts no further than that: a part that stands in many places counts in each of them, and they may double with each pair.
func big(v Value) bool {
	found := []*Value{&v}
	for i := 0; i < len(found); i++ {
		if len(found) > MaxParts {
			return true
		}
		for k := range found[i].Kids {
			found = append(found, &found[i].Kids[k])
		}
	}
	return false
}

// separate returns a value whose Kids, and theirs, are its own: whoever gave it may change theirs.
func separate(v Value) Value {
	todo := []*Value{&v}
	for len(todo) > 0 {
		last := len(todo) - 1
		at := todo[last]
		todo = todo[:last]
		at.Kids = append([]Value(nil), at.Kids...)
		for i := range at.Kids {
			todo = append(todo, &at.Kids[i])
		}
	}
	return v
}
