// Package order is layer 1: see shared/doc/01-order.md.
package order

import "whisper/api"

// none is what stands for a point where there is none.
const none = -1

// points is a set of points: a bit for each, which is why there are at most 32 of them.
type points uint32

// Order is points, each with those that it is below, and above; itself, too.
type Order struct {
	above []points // of each point: the points that it is below
	under []points // of each point: the points that are below it
}

// New is the order of n points in which these are below one another, as pairs.
func New(n int, below ...[2]int) (*Order, api.Errno) {
	if n < 1 || n > api.MaxPoints {
		return nil, api.ErrArg
	}
	o := &Order{above: make([]points, n), under: make([]points, n)}
	for a := range n {
		o.above[a] = only(a)
	}
	for _, p := range below {
		if !o.has(p[0]) || !o.has(p[1]) {
			return nil, api.ErrArg
		}
		o.above[p[0]] |= only(p[1])
	}
	o.complete()
	o.reverse()
	if !o.isLattice() {
		return nil, api.ErrOrder
	}
	return o, api.OK
}

// Len is how many points there are.
func (o *Order) Len() int {
	if o == nil {
		return 0
	}
	return len(o.above)
}

// Below tells whether a point is below another one, or it.
func (o *Order) Below(a, b int) bool {
	return o.has(a) && o.has(b) && o.above[a].contains(b)
}

// Join is the least point that both are below; below 0: none.
func (o *Order) Join(a, b int) int {
	if !o.has(a) || !o.has(b) {
		return none
	}
	return find(o.above, o.above[a]&o.above[b])
}

// Meet is the greatest point that is below both; below 0: none.
func (o *Order) Meet(a, b int) int {
	if !o.has(a) || !o.has(b) {
		return none
	}
	return find(o.under, o.under[a]&o.under[b])
}

// Bottom is the least point; below 0: none.
func (o *Order) Bottom() int {
	if o == nil {
		return none
	}
	return find(o.above, all(len(o.above)))
}

// Top is the greatest point; below 0: none.
func (o *Order) Top() int {
	if o == nil {
		return none
	}
	return find(o.under, all(len(o.under)))
}

// has tells whether a number is a point; a nil order has no points.
func (o *Order) has(a int) bool {
	return a >= 0 && a < o.Len()
}

// complete adds what follows from the pairs. The point in between has to be the outer loop: then one pass is enough.
func (o *Order) complete() {
	for mid := range o.above {
		for a := range o.above {
			if o.above[a].contains(mid) {
				o.above[a] |= o.above[mid]
			}
		}
	}
}

// reverse derives the points under each point from those above.
func (o *Order) reverse() {
	for a := range o.above {
		for b := range o.under {
			if o.above[a].contains(b) {
				o.under[b] |= only(a)
			}
		}
	}
}

// isLattice needs the order closed: only then are two points below one another just if the same points are above both.
func (o *Order) isLattice() bool {
	for b := range o.above {
		for a := range b {
			if o.above[a] == o.above[b] || o.Join(a, b) == none || o.Meet(a, b) == none {
				return false
			}
		}
	}
	return true
}

// find returns the point whose set is exactly the wanted one. What two points have above in common is, if they have a join, just what is above their join; the same holds for the meet and the points under it.
func find(sets []points, wanted points) int {
	for p, s := range sets {
		if s == wanted {
			return p
		}
	}
	return none
}

// only is the set of one point.
func only(a int) points { return 1 << a }

// all is the set of the first n points; for 32 points the shift leaves 0, and the subtraction wraps round to every bit.
func all(n int) points { return 1<<n - 1 }

func (s points) contains(a int) bool { return s&only(a) != 0 }
