package policy

import (
	"whisper/api"
	"whisper/label"
	"whisper/order"
	"whisper/program"
)

// Lattice is the policy's lattice, and the attacker's point; an error is an api.Diag.
func (p *Policy) Lattice() (label.Lattice, int, error) {
	if p == nil {
		return label.Lattice{}, 0, api.Diag{Code: api.ErrArg}
	}
	if e := p.checkNames(); e != nil {
		return label.Lattice{}, 0, e
	}
	conf, e := p.orderOf(p.Conf)
	if e != nil {
		return label.Lattice{}, 0, e
	}
	integ, e := p.orderOf(p.Integ)
	if e != nil {
		return label.Lattice{}, 0, e
	}
	attacker := Point(p.Integ, p.Attacker.Text)
	if attacker < 0 {
		return label.Lattice{}, 0, wrong(api.ErrName, p.Attacker)
	}
	return label.Lattice{Conf: conf, Integ: integ}, attacker, nil
}

// checkNames keeps the names in a map, because a text may have thousands of points.
func (p *Policy) checkNames() error {
	known := map[string]struct{}{}
	for _, l := range [][]program.Name{p.Conf, p.Integ} {
		for _, n := range l {
			if _, ok := known[n.Text]; ok {
				return wrong(api.ErrTwice, n)
			}
			known[n.Text] = struct{}{}
		}
	}
	for _, pair := range p.Order {
		for _, n := range pair {
			if _, ok := known[n.Text]; !ok {
				return wrong(api.ErrName, n)
			}
		}
	}
	return nil
}

// orderOf needs the names checked: then one that is no point of this kind is one of the other kind.
func (p *Policy) orderOf(points []program.Name) (*order.Order, error) {
	var below [][2]int
	for _, pair := range p.Order {
		low, high := Point(points, pair[0].Text), Point(points, pair[1].Text)
		switch {
		case low >= 0 && high >= 0:
			below = append(below, [2]int{low, high})
		case low >= 0:
			return nil, wrong(api.ErrKind, pair[1])
		case high >= 0:
			return nil, wrong(api.ErrKind, pair[0])
		}
	}
	o, code := order.New(len(points), below...)
	if code != api.OK {
		return nil, api.Diag{Code: code, At: first(points)}
	}
	return o, nil
}

// first is where the first point stands; where there is none, the beginning of a text.
func first(points []program.Name) api.Pos {
	if len(points) == 0 {
		return api.Pos{Line: 1, Col: 1}
	}
	return points[0].At
}
