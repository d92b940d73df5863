package policy

import (
	"errors"

	"whisper/api"
	"whisper/expr"
	"whisper/lex"
	"whisper/program"
)

// parser goes through a text, and puts its items into a policy.
type parser struct {
	*expr.Reader
	to *Policy
}

// items is how each is read, behind the word that it begins with.
func items() map[string]func(*parser) error {
	return map[string]func(*parser) error{
		"conf":     func(p *parser) error { return p.list(&p.to.Conf, (*parser).name) },
		"integ":    func(p *parser) error { return p.list(&p.to.Integ, (*parser).name) },
		"order":    (*parser).order,
		"attacker": (*parser).attacker,
		"hatch":    (*parser).hatch,
	}
}

func (p *parser) all() error {
	known := items()
	for n := 0; p.Next().Kind != lex.End; n++ {
		if n == api.MaxDecls {
			return p.Wrong(api.ErrLimit)
		}
		if e := p.item(known); e != nil {
			return e
		}
	}
	if !p.hasAttacker() {
		return p.noAttacker()
	}
	return nil
}

func (p *parser) item(known map[string]func(*parser) error) error {
	word := p.Next().Text
	read, ok := known[word]
	if !ok {
		return p.Wrong(api.ErrSyntax)
	}
	if e := p.Take(word); e != nil {
		return e
	}
	if e := read(p); e != nil {
		return e
	}
	return p.Take(";")
}

// list reads one part or more, with commas between them.
func (p *parser) list(l *[]program.Name, part func(*parser) (program.Name, error)) error {
	for {
		n, e := part(p)
		if e != nil {
			return e
		}
		*l = append(*l, n)
		if !p.Is(",") {
			return nil
		}
		p.Take(",")
	}
}

func (p *parser) order() error {
	low, e := p.name()
	if e != nil {
		return e
	}
	high, e := p.behind("<")
	if e != nil {
		return e
	}
	p.to.Order = append(p.to.Order, [2]program.Name{low, high})
	return nil
}

// attacker looks for another one only when it has a name: ahead of that, only a token can be wrong.
func (p *parser) attacker() error {
	n, e := p.name()
	if e != nil {
		return e
	}
	if p.hasAttacker() {
		return wrong(api.ErrTwice, n)
	}
	p.to.Attacker = n
	return nil
}

func (p *parser) hatch() (e error) {
	var h Hatch
	if h.Name, e = p.name(); e != nil {
		return e
	}
	if e = p.Take("="); e != nil {
		return e
	}
	if h.Body, e = p.Expr(); e != nil {
		return e
	}
	if h.To, e = p.behind("to"); e != nil {
		return e
	}
	if e = p.Take("in"); e != nil {
		return e
	}
	if e = p.list(&h.In, (*parser).fun); e != nil {
		return e
	}
	p.to.Hatches = append(p.to.Hatches, h)
	return nil
}

// fun reads a function's name, or main, which is a word of the language.
func (p *parser) fun() (program.Name, error) {
	if !p.Is(program.Main) {
		return p.name()
	}
	at := p.Next().At
	return program.Name{Text: program.Main, At: at}, p.Take(program.Main)
}

func (p *parser) name() (program.Name, error) {
	t, e := p.Name()
	return program.Name{Text: t.Text, At: t.At}, e
}

// behind reads a name that comes behind a mark, or a word.
func (p *parser) behind(s string) (program.Name, error) {
	if e := p.Take(s); e != nil {
		return program.Name{}, e
	}
	return p.name()
}

func (p *parser) hasAttacker() bool {
	return p.to.Attacker.Text != ""
}

// noAttacker names what is missing, which a reader's diagnosis doesn't.
func (p *parser) noAttacker() error {
	e := p.Wrong(api.ErrMissing)
	var d api.Diag
	if errors.As(e, &d) {
		d.Name = "attacker"
		return d
	}
	return e
}
