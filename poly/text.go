package poly

import (
	"slices"
	"strconv"
	"strings"

	"framewise/api"
)

// Print returns the text of a polynomial.
func Print(p api.Poly) string {
	if !Valid(p) {
		return ""
	}
	if len(p) == 0 {
		return "0"
	}
	var b strings.Builder
	for i, m := range p {
		switch {
		case m.Coef < 0:
			b.WriteByte('-')
		case i > 0:
			b.WriteByte('+')
		}
		b.WriteString(strings.Join(parts(m), "*"))
	}
	return b.String()
}

// parts returns the texts of the factors of a monomial, without its sign.
func parts(m api.Monomial) []string {
	var l []string
	if n := max(m.Coef, -m.Coef); n != 1 || len(m.Vars) == 0 {
		l = append(l, strconv.Itoa(n))
	}
	for i := 0; i < len(m.Vars); {
		power := 1
		for i+power < len(m.Vars) && m.Vars[i+power] == m.Vars[i] {
			power++
		}
		if power == 1 {
			l = append(l, m.Vars[i])
		} else {
			l = append(l, m.Vars[i]+"^"+strconv.Itoa(power))
		}
		i += power
	}
	return l
}

// Parse returns the polynomial with a text.
func Parse(s string) (api.Poly, api.Errno) {
	var p api.Poly
	for rest := s; rest != "" && s != "0"; {
		end := strings.IndexAny(rest[1:], "+-") + 1
		if end == 0 {
			end = len(rest)
		}
		m, ok := monomial(rest[:end])
		if !ok || len(p) == MaxMono {
			return nil, api.ErrSyntax
		}
		p, rest = append(p, m), rest[end:]
	}
	// Whatever was accepted loosely is not the text of what was read.
	if !Valid(p) || Print(p) != s {
		return nil, api.ErrSyntax
	}
	return p, api.OK
}

// monomial reads a monomial with its sign.
func monomial(s string) (api.Monomial, bool) {
	m := api.Monomial{Coef: 1}
	if s[0] == '-' {
		m.Coef = -1
	}
	for _, part := range strings.Split(strings.TrimLeft(s, "+-"), "*") {
		if n, err := strconv.Atoi(part); err == nil {
			if n > MaxCoef || len(m.Vars) > 0 {
				return api.Monomial{}, false
			}
			m.Coef *= n
			continue
		}
		name, exponent, raised := strings.Cut(part, "^")
		power := 1
		if raised {
			var err error
			if power, err = strconv.Atoi(exponent); err != nil {
				return api.Monomial{}, false
			}
		}
		if power < 1 || len(m.Vars)+power > MaxDegree {
			return api.Monomial{}, false
		}
		m.Vars = append(m.Vars, slices.Repeat([]string{name}, power)...)
	}
	return m, true
}
