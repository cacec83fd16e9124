package certificate

import (
	"framewise/api"
	"framewise/linear"
	"framewise/source"
	"framewise/wire"
)

// The limits of encodings: multipliers of a certificate (one for each fact, and each further one), and its kids.
const (
	maxMults = MaxFacts + MaxSize
	maxKids  = 2
)

// Encode appends the encoding of a certificate.
func Encode(b []byte, c api.Cert) []byte { return appendCert(wire.Int(b, c.Kind), c) }

// appendCert writes what follows the kind, into bytes that are new already.
func appendCert(b []byte, c api.Cert) []byte {
	b = append(b, wire.Ints(nil, c.Mults)...)
	b = append(b, linear.Encode(nil, c.Linear)...)
	b = append(b, wire.Int(nil, len(c.Kids))...)
	for _, kid := range c.Kids {
		b = appendCert(append(b, wire.Int(nil, kid.Kind)...), kid)
	}
	return b
}

// Decode reads a certificate.
func Decode(s *wire.Source) api.Cert {
	left := MaxSize
	return source.Take(s, func(t *wire.Source) api.Cert { return decode(t, &left) })
}

// decode reads a certificate with at most so many certificates in it.
func decode(s *wire.Source, left *int) api.Cert {
	if s.Err == api.OK && *left == 0 {
		s.Err = api.ErrLimit
	}
	*left--
	c := api.Cert{Kind: s.Int(api.CertSum, api.CertSplit), Mults: s.Ints(maxMults, -MaxMult, MaxMult), Linear: linear.Decode(s)}
	for n := source.Length(s, maxKids); n > 0 && s.Err == api.OK; n-- {
		c.Kids = append(c.Kids, decode(s, left))
	}
	return c
}
