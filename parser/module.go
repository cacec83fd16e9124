package parser

import (
	"framewise/api"
	"framewise/lexer"
	"framewise/linear"
)

// module reads a module, and tells each definition with the offset of its first word.
func (p *reader) module(tell func(d api.Def, at int)) api.Module {
	p.expect("module")
	m := api.Module{Name: p.name()}
	for p.accept("import") {
		m.Imports = append(m.Imports, list(p, p.name)...)
	}
	if p.accept("export") {
		m.Exports = list(p, p.name)
	}
	for p.peek().Text == "def" {
		at := p.peek().At
		d := p.def()
		tell(d, at)
		m.Defs = append(m.Defs, d)
	}
	return m
}

func (p *reader) def() api.Def {
	d := api.Def{Line: p.peek().Line}
	p.expect("def")
	d.Name = p.name()
	p.expect("(")
	if !p.accept(")") {
		d.Params = list(p, p.param)
		p.expect(")")
	}
	if d.Given = p.accept(":"); d.Given {
		d.Result = p.typ()
	}
	p.expect("=")
	d.Body = p.expr()
	return d
}

func (p *reader) param() api.Param {
	q := api.Param{Name: p.name()}
	if q.Given = p.accept(":"); q.Given {
		q.Type = p.typ()
	}
	return q
}

func (p *reader) typ() api.Type {
	var t api.Type
	if p.accept("[") && !p.accept("]") {
		if p.isRow() {
			t.Shape.Row = p.name()
			p.expect("..")
		}
		if t.Shape.Row == "" || p.accept(",") {
			t.Shape.Dims = list(p, p.size)
		}
		p.expect("]")
	}
	switch {
	case p.accept(api.Int):
		t.Elem = api.Int
	case p.accept(api.Bool):
		t.Elem = api.Bool
	default:
		p.fail()
	}
	return t
}

// isRow reports whether a name and two points come next.
func (p *reader) isRow() bool {
	after := p.next + 1
	return p.peek().Kind == lexer.Name && after < len(p.tokens) && p.tokens[after].Text == ".."
}

// size reads a size; it is bad if it cannot be computed.
func (p *reader) size() api.Linear {
	var sum api.Linear
	add := linear.Add
	if p.accept("-") {
		add = linear.Sub
	}
	for {
		var e api.Errno
		if sum, e = add(sum, p.item()); e != api.OK {
			p.isBad = true
		}
		switch {
		case p.accept("+"):
			add = linear.Add
		case p.accept("-"):
			add = linear.Sub
		default:
			return sum
		}
	}
}

// item reads a number, a variable, or their product.
func (p *reader) item() api.Linear {
	if p.peek().Kind != lexer.Number {
		return linear.Var(p.name())
	}
	n := p.number()
	if p.peek().Kind != lexer.Name {
		return linear.Of(n)
	}
	l, e := linear.Scale(linear.Var(p.name()), n)
	if e != api.OK {
		p.isBad = true
	}
	return l
}
