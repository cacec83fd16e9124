package parser

import (
	"framewise/api"
	"framewise/lexer"
	"framewise/prims"
)

// The levels of operators: the least one, that of comparisons, which do not follow each other, and that of operands.
const (
	lowest      = 1
	comparisons = 3
	operands    = 6
)

// greatest is the greatest int element.
const greatest = lexer.MaxNumber - 1

func (p *reader) expr() api.Term {
	t := api.Term{Kind: api.TermLet, Line: p.peek().Line}
	if !p.accept("let") {
		return p.binary()
	}
	t.Name = p.name()
	p.expect("=")
	value := p.expr()
	p.expect("in")
	t.Kids = []api.Term{value, p.expr()}
	return t
}

// binary reads operands with operators in between.
func (p *reader) binary() api.Term {
	var read func(level int) api.Term
	read = func(level int) api.Term {
		if level == operands {
			return p.unary()
		}
		line := p.peek().Line
		left := read(level + 1)
		for {
			op, l, ok := prims.Operator(p.peek().Text, false)
			if !ok || l != level {
				return left
			}
			p.next++
			left = api.Term{Kind: api.TermCall, Line: line, Name: op, Kids: []api.Term{left, read(level + 1)}}
			if level == comparisons {
				return left
			}
		}
	}
	return read(lowest)
}

func (p *reader) unary() api.Term {
	line := p.peek().Line
	op, _, ok := prims.Operator(p.peek().Text, true)
	if !ok {
		return p.primary()
	}
	isMinus := p.accept("-")
	if isMinus && p.peek().Kind == lexer.Number {
		return api.Term{Kind: api.TermLit, Line: line, Name: api.Int, Num: -p.number()}
	}
	if !isMinus {
		p.next++
	}
	return api.Term{Kind: api.TermCall, Line: line, Name: op, Kids: []api.Term{p.unary()}}
}

func (p *reader) primary() api.Term {
	first := p.peek()
	t := api.Term{Line: first.Line}
	switch {
	case first.Kind == lexer.Number:
		if n, _ := lexer.Value(first.Text); n > greatest {
			p.fail()
		}
		t.Kind, t.Name, t.Num = api.TermLit, api.Int, p.number()
	case p.accept("true"):
		t.Kind, t.Name, t.Num = api.TermLit, api.Bool, 1
	case p.accept("false"):
		t.Kind, t.Name = api.TermLit, api.Bool
	case first.Kind == lexer.Name:
		p.call(&t)
	case p.accept("("):
		t = p.expr()
		p.expect(")")
	case p.accept("["):
		t.Kind, t.Kids = api.TermPack, list(p, p.expr)
		p.expect("]")
	case p.accept("fold"):
		t.Kind = api.TermFold
		p.loop(&t, 2)
	case p.accept("scan"):
		t.Kind = api.TermScan
		p.loop(&t, 1)
	case p.accept("size"):
		t.Kind = api.TermSize
		p.expect("[")
		t.Sizes = []api.Linear{p.size()}
		p.expect("]")
	case p.accept("#"):
		p.constant(&t)
	default:
		p.fail()
	}
	return t
}

// call reads a function with its arguments, or a variable.
func (p *reader) call(t *api.Term) {
	t.Kind, t.Name = api.TermVar, p.name()
	isCall := false
	if p.accept(".") {
		t.Name += "." + p.name()
		isCall = true
	}
	if p.accept("[") {
		t.Sizes = list(p, p.size)
		p.expect("]")
		isCall = true
	}
	if p.accept("{") {
		t.Num = p.number()
		p.expect("}")
		isCall = true
	}
	if p.accept("@") {
		p.expect("(")
		t.Ranks = list(p, p.number)
		p.expect(")")
		isCall = true
	}
	if !isCall && p.peek().Text != "(" {
		return
	}
	t.Kind = api.TermCall
	p.expect("(")
	if !p.accept(")") {
		t.Kids = list(p, p.expr)
		p.expect(")")
	}
}

// loop reads what stands behind fold or scan: a function, and so many terms.
func (p *reader) loop(t *api.Term, kids int) {
	p.expect("(")
	t.Name = p.function()
	for range kids {
		p.expect(",")
		t.Kids = append(t.Kids, p.expr())
	}
	p.expect(")")
}

// constant reads what stands behind #.
func (p *reader) constant(t *api.Term) {
	t.Kind, t.Array.Elem = api.TermConst, api.Int
	if p.accept("b") {
		t.Array.Elem = api.Bool
	}
	p.expect("[")
	for p.peek().Kind == lexer.Number {
		t.Array.Dims = append(t.Array.Dims, p.number())
	}
	p.expect(":")
	for p.peek().Kind == lexer.Number || p.peek().Text == "-" {
		sign := 1
		if p.accept("-") {
			sign = -1
		}
		t.Array.Data = append(t.Array.Data, sign*p.number())
	}
	p.expect("]")
}
