// Package wire implements layer 1: encodings whose order is that of the values. See shared/doc/01-wire.md.
package wire

import (
	"slices"

	"framewise/api"
)

// Integers from low to high are a single byte; maxBytes is the greatest number of further bytes of the others.
const (
	low      = -120
	high     = 119
	zero     = 128
	maxBytes = 8
)

// Int appends the encoding of an integer.
func Int(b []byte, n int) []byte { return appendInt(slices.Clone(b), n) }

// Bool appends the encoding of a boolean.
func Bool(b []byte, v bool) []byte {
	if v {
		return Int(b, 1)
	}
	return Int(b, 0)
}

// Text appends the encoding of a text.
func Text(b []byte, s string) []byte { return appendText(slices.Clone(b), s) }

// Ints appends the encoding of a list of integers.
func Ints(b []byte, l []int) []byte { return appendList(b, l, appendInt) }

// Texts appends the encoding of a list of texts.
func Texts(b []byte, l []string) []byte { return appendList(b, l, appendText) }

// Size returns the length of the encoding of an integer.
func Size(n int) int {
	m, _, single := rest(n)
	if single {
		return 1
	}
	return 1 + count(m)
}

// appendList writes a list into new bytes, each element by put.
func appendList[T any](b []byte, l []T, put func([]byte, T) []byte) []byte {
	b = appendInt(slices.Clone(b), len(l))
	for _, v := range l {
		b = put(b, v)
	}
	return b
}

func appendText(b []byte, s string) []byte { return append(appendInt(b, len(s)), s...) }

// appendInt may write into the spare capacity of b.
func appendInt(b []byte, n int) []byte {
	m, negative, single := rest(n)
	if single {
		return append(b, byte(n+zero))
	}
	k := count(m)
	head, flip := byte(high+zero+k), byte(0)
	if negative {
		head, flip = byte(maxBytes-k), 255
	}
	b = append(b, head)
	for i := k - 1; i >= 0; i-- {
		b = append(b, byte(m>>(8*i))^flip)
	}
	return b
}

// rest returns how far an integer lies outside of the single bytes, and on which side.
func rest(n int) (m uint64, negative, single bool) {
	switch {
	case n > high:
		return uint64(n - high - 1), false, false
	case n < low:
		return uint64(low - 1 - n), true, false
	}
	return 0, false, true
}

// count returns how many bytes a rest takes: at least one.
func count(m uint64) int {
	k := 1
	for m >>= 8; m > 0; m >>= 8 {
		k++
	}
	return k
}

// Source has the bytes that are still to be read, and the first error.
type Source struct {
	Rest []byte
	Err  api.Errno
}

// Int reads an integer from lo to hi.
func (s *Source) Int(lo, hi int) int {
	return read(s, func(t *Source) int { return t.within(lo, hi, api.ErrRange) })
}

// Bool reads a boolean.
func (s *Source) Bool() bool { return s.Int(0, 1) == 1 }

// Text reads a text of at most so many bytes.
func (s *Source) Text(most int) string {
	return read(s, func(t *Source) string { return t.text(most) })
}

// Ints reads a list of at most so many integers from lo to hi.
func (s *Source) Ints(most, lo, hi int) []int {
	return readList(s, most, func(t *Source) int { return t.within(lo, hi, api.ErrRange) })
}

// Texts reads a list of at most so many texts of at most long bytes.
func (s *Source) Texts(most, long int) []string {
	return readList(s, most, func(t *Source) string { return t.text(long) })
}

// End returns the first error, or ErrForm if there are still bytes.
func (s *Source) End() api.Errno {
	switch {
	case s == nil:
		return api.ErrState
	case s.Err == api.OK && len(s.Rest) > 0:
		return api.ErrForm
	}
	return s.Err
}

// read takes a value from a copy of the source, so that Rest stays as it was if there is an error.
func read[T any](s *Source, take func(*Source) T) T {
	var none T
	if s == nil || s.Err != api.OK {
		return none
	}
	t := *s
	v := take(&t)
	if s.Err = t.Err; s.Err != api.OK {
		return none
	}
	s.Rest = t.Rest
	return v
}

// readList reads a list of at most so many elements.
func readList[T any](s *Source, most int, take func(*Source) T) []T {
	return read(s, func(t *Source) []T {
		var l []T
		for n := t.within(0, most, api.ErrLimit); n > 0 && t.Err == api.OK; n-- {
			l = append(l, take(t))
		}
		return l
	})
}

// text reads the length and the bytes of a text.
func (s *Source) text(most int) string {
	n := s.within(0, most, api.ErrLimit)
	if s.Err == api.OK && n > len(s.Rest) {
		s.Err = api.ErrForm
	}
	if s.Err != api.OK {
		return ""
	}
	v := string(s.Rest[:n])
	s.Rest = s.Rest[n:]
	return v
}

// within reads an integer, with the error e if it is not from lo to hi.
func (s *Source) within(lo, hi int, e api.Errno) int {
	if s.Err != api.OK {
		return 0
	}
	n, size, ok := parse(s.Rest)
	switch {
	case !ok:
		s.Err = api.ErrForm
	case n < lo || n > hi:
		s.Err = e
	default:
		s.Rest = s.Rest[size:]
		return n
	}
	return 0
}

// parse returns the integer with whose encoding b begins, and its length.
func parse(b []byte) (n, size int, ok bool) {
	if len(b) == 0 {
		return 0, 0, false
	}
	head := int(b[0])
	k, flip := head-(high+zero), byte(0)
	switch {
	case head < maxBytes:
		k, flip = maxBytes-head, 255
	case k <= 0:
		return head - zero, 1, true
	}
	var m uint64
	i := 0
bytes:
	for ; i < k; i++ {
		if i+1 >= len(b) {
			break bytes
		}
		digit := b[i+1] ^ flip
		if i == 0 && k > 1 && digit == 0 {
			break bytes // fewer bytes would do
		}
		m = m<<8 | uint64(digit)
	}
	// The greatest rest is that of both ends of the integers.
	if i < k || m > uint64(1<<63-1-(high+1)) {
		return 0, 0, false
	}
	if flip == 0 {
		return int(m) + high + 1, k + 1, true
	}
	return low - 1 - int(m), k + 1, true
}
