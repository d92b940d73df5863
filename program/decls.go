package program

import (
	"errors"

	"whisper/api"
	"whisper/expr"
	"whisper/lex"
)

// parser goes through a text, and puts its declarations into a program.
type parser struct {
	*expr.Reader
	to *Program
}

// declarations is how each is read, by the word that it begins with.
func declarations() map[string]func(*parser) error {
	return map[string]func(*parser) error{
		"input":     func(p *parser) error { return p.decl("input", &p.to.Inputs, (*parser).points) },
		"global":    func(p *parser) error { return p.decl("global", &p.to.Globals, (*parser).points, (*parser).number) },
		"channel":   func(p *parser) error { return p.decl("channel", &p.to.Channels, (*parser).points) },
		"exception": func(p *parser) error { return p.decl("exception", &p.to.Exns) },
		"fun":       (*parser).fun,
		Main:        (*parser).main,
	}
}

func (p *parser) all() error {
	known := declarations()
	for n := 0; p.Next().Kind != lex.End; n++ {
		if n == api.MaxDecls {
			return p.Wrong(api.ErrLimit)
		}
		read, ok := known[p.Next().Text]
		if !ok {
			return p.Wrong(api.ErrSyntax)
		}
		if e := read(p); e != nil {
			return e
		}
		if e := p.Take(";"); e != nil {
			return e
		}
	}
	if !p.hasMain() {
		return p.wrongMain(api.ErrMissing)
	}
	return nil
}

// decl reads a declaration that is a name, and the parts that those of its kind have besides.
func (p *parser) decl(word string, l *[]Decl, parts ...func(*parser, *Decl) error) error {
	var d Decl
	if e := p.name(&d.Name, word); e != nil {
		return e
	}
	for _, read := range parts {
		if e := read(p, &d); e != nil {
			return e
		}
	}
	*l = append(*l, d)
	return nil
}

func (p *parser) points(d *Decl) error {
	if e := p.name(&d.Conf, ":", "{"); e != nil {
		return e
	}
	if e := p.name(&d.Integ); e != nil {
		return e
	}
	return p.Take("}")
}

func (p *parser) number(d *Decl) error {
	if e := p.Take("="); e != nil {
		return e
	}
	sign := int64(1)
	if p.Is("-") {
		p.Take("-")
		sign = -1
	}
	t, e := p.Number()
	d.Int = sign * t.Int
	return e
}

func (p *parser) fun() error {
	var f Fun
	if e := p.name(&f.Name, "fun"); e != nil {
		return e
	}
	if e := p.params(&f); e != nil {
		return e
	}
	if e := p.body(&f); e != nil {
		return e
	}
	p.to.Funs = append(p.to.Funs, f)
	return nil
}

func (p *parser) params(f *Fun) error {
	if e := p.Take("("); e != nil {
		return e
	}
	if p.Is(")") {
		return p.Take(")")
	}
	for {
		var n Name
		if e := p.name(&n); e != nil {
			return e
		}
		f.Params = append(f.Params, n)
		if !p.Is(",") {
			return p.Take(")")
		}
		p.Take(",")
	}
}

// main looks for another main ahead of everything else: at this one's word, no other error comes first.
func (p *parser) main() error {
	if p.hasMain() {
		return p.wrongMain(api.ErrTwice)
	}
	f := Fun{Name: Name{Text: Main, At: p.Next().At}}
	if e := p.Take(Main); e != nil {
		return e
	}
	if e := p.body(&f); e != nil {
		return e
	}
	p.to.Main = f
	return nil
}

func (p *parser) body(f *Fun) (e error) {
	if e = p.Take("="); e != nil {
		return e
	}
	f.Body, e = p.Expr()
	return e
}

// name reads a name that comes behind some marks and words.
func (p *parser) name(n *Name, before ...string) error {
	if e := p.Take(before...); e != nil {
		return e
	}
	t, e := p.Name()
	*n = Name{Text: t.Text, At: t.At}
	return e
}

func (p *parser) hasMain() bool {
	return p.to.Main.Text == Main
}

// wrongMain is what is wrong with the main expression: it has its name, which a reader's diagnosis leaves out.
func (p *parser) wrongMain(code api.Errno) error {
	e := p.Wrong(code)
	var d api.Diag
	if errors.As(e, &d) {
		d.Name = Main
		return d
	}
	return e
}
