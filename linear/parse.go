package linear

import (
	"strconv"
	"strings"

	"framewise/api"
)

// reader has what is still to be parsed, the sum of the items so far, and the sign of the next one.
type reader struct {
	rest string
	sign int
	sum  *sum
}

// Parse returns the expression for which a source stands.
func Parse(s string) (api.Linear, api.Errno) {
	p := reader{rest: s, sum: newSum(0)}
	p.spaces()
	for first := true; first || p.rest != ""; first = false {
		if !p.signed(first) || !p.item() {
			return api.Linear{}, api.ErrSyntax
		}
	}
	return p.sum.linear()
}

func (p *reader) spaces() { p.rest = strings.TrimLeft(p.rest, " ") }

// signed reads a sign, which may be left out if it is the first one.
func (p *reader) signed(first bool) bool {
	switch {
	case strings.HasPrefix(p.rest, "-"):
		p.sign = -1
	case strings.HasPrefix(p.rest, "+"):
		p.sign = 1
	default:
		p.sign = 1
		return first
	}
	p.rest = p.rest[1:]
	p.spaces()
	return true
}

// item reads an item of one of the kinds.
func (p *reader) item() bool {
	for _, kind := range []func() bool{p.numbered, p.alone} {
		if kind() {
			p.spaces()
			return true
		}
	}
	return false
}

// numbered reads an item that begins with a number.
func (p *reader) numbered() bool {
	end := span(p.rest, 0, isDigit)
	if end == 0 || end > maxSourceDigits || end > 1 && p.rest[0] == '0' {
		return false
	}
	n, err := strconv.Atoi(p.rest[:end])
	if err != nil {
		return false
	}
	p.rest = p.rest[end:]
	if variable, ok := p.variable(); ok {
		p.sum.add(Var(variable), p.sign*n)
		return true
	}
	p.spaces()
	if !strings.HasPrefix(p.rest, "*") {
		p.sum.add(Of(n), p.sign)
		return true
	}
	p.rest = p.rest[1:]
	p.spaces()
	variable, ok := p.variable()
	p.sum.add(Var(variable), p.sign*n)
	return ok
}

// alone reads a variable without a number.
func (p *reader) alone() bool {
	variable, ok := p.variable()
	p.sum.add(Var(variable), p.sign)
	return ok
}

func (p *reader) variable() (string, bool) {
	end := span(p.rest, 0, isNameByte)
	if strings.HasPrefix(p.rest, "_") {
		end = span(p.rest, 1, isNameByte)
	}
	variable := p.rest[:end]
	if !Name(variable) {
		return "", false
	}
	p.rest = p.rest[end:]
	return variable, true
}
