package wire_test

import (
	"bytes"
	"math"
	"math/rand"
	"slices"
	"testing"

	"framewise/api"
	"framewise/wire"
)

// edges are integers at which the length of the encoding changes, and their neighbours.
func edges() []int {
	l := []int{math.MinInt, math.MinInt + 1, math.MaxInt, math.MaxInt - 1}
	for k := 0; k < 8; k++ {
		for d := -2; d <= 2; d++ {
			l = append(l, 120+1<<(8*k)+d, -121-1<<(8*k)+d)
		}
	}
	for n := -400; n <= 400; n++ {
		l = append(l, n)
	}
	return l
}

func TestEncodings(t *testing.T) { // P1.1
	for _, c := range []struct {
		got, want []byte
	}{
		{wire.Int(nil, 5), []byte{133}},
		{wire.Int([]byte{9}, 120), []byte{9, 248, 0}},
		{wire.Int(nil, 400), []byte{249, 1, 24}},
		{wire.Int(nil, -121), []byte{7, 255}},
		{wire.Int(nil, math.MinInt), []byte{0, 128, 0, 0, 0, 0, 0, 0, 120}},
		{wire.Bool(nil, false), []byte{128}},
		{wire.Bool([]byte{1}, true), []byte{1, 129}},
		{wire.Text([]byte{1}, "ab"), []byte{1, 130, 'a', 'b'}},
		{wire.Text(nil, ""), []byte{128}},
		{wire.Ints(nil, nil), []byte{128}},
		{wire.Ints(nil, []int{1, -1}), []byte{130, 129, 127}},
		{wire.Texts(nil, []string{"x", ""}), []byte{130, 129, 'x', 128}},
	} {
		if !bytes.Equal(c.got, c.want) {
			t.Errorf("got %v, want %v", c.got, c.want)
		}
	}
}

func TestNewBytes(t *testing.T) { // results share no memory with arguments
	b := make([]byte, 1, 100)
	wire.Int(b, 7)
	wire.Bool(b, true)
	wire.Text(b, "abc")
	wire.Ints(b, []int{7})
	wire.Texts(b, []string{"abc"})
	if l := b[:100]; !bytes.Equal(l, make([]byte, 100)) {
		t.Errorf("spare capacity was written: %v", l)
	}
	r := wire.Int(b, 7)
	r[0] = 9
	if b[0] != 0 {
		t.Error("the result shares memory with the argument")
	}
}

func TestInverse(t *testing.T) { // P1.2, P1.4
	for _, n := range edges() {
		b := wire.Int(nil, n)
		if len(b) != wire.Size(n) || len(b) > 9 {
			t.Errorf("%d has the encoding %v and the size %d", n, b, wire.Size(n))
		}
		s := wire.Source{Rest: append(b, 77)}
		if m := s.Int(math.MinInt, math.MaxInt); m != n || s.Err != api.OK || !bytes.Equal(s.Rest, []byte{77}) {
			t.Errorf("%d was read as %d, with %v left", n, m, s.Rest)
		}
	}
	b := wire.Texts(wire.Ints(wire.Bool(wire.Text(nil, "a\x00b"), true), []int{3, 1 << 40}), []string{"", "xyz"})
	s := wire.Source{Rest: b}
	if s.Text(3) != "a\x00b" || !s.Bool() || !slices.Equal(s.Ints(2, 3, 1<<40), []int{3, 1 << 40}) || !slices.Equal(s.Texts(2, 3), []string{"", "xyz"}) || s.End() != api.OK {
		t.Errorf("%v", s)
	}
}

func TestCanonical(t *testing.T) { // P1.2: bytes that are read as an integer are its encoding
	r := rand.New(rand.NewSource(1))
	for i := 0; i < 200000; i++ {
		b := make([]byte, r.Intn(10))
		r.Read(b)
		if len(b) > 0 && i%2 == 0 {
			b[0] = byte([]int{r.Intn(8), 248 + r.Intn(8)}[r.Intn(2)])
		}
		if len(b) > 1 && i%3 == 0 {
			b[1] = byte([]int{0, 255, 127, 128}[r.Intn(4)])
		}
		s := wire.Source{Rest: b}
		n := s.Int(math.MinInt, math.MaxInt)
		if s.Err == api.OK && !bytes.Equal(wire.Int(nil, n), b[:len(b)-len(s.Rest)]) {
			t.Fatalf("%v is read as %d", b, n)
		}
		if s.Err != api.OK && (s.Err != api.ErrForm || n != 0) {
			t.Fatalf("%v has the error %d", b, s.Err)
		}
	}
}

func TestOrder(t *testing.T) { // P1.3
	l := edges()
	slices.Sort(l)
	l = slices.Compact(l)
	for i := 1; i < len(l); i++ {
		a, b := wire.Int(nil, l[i-1]), wire.Int(nil, l[i])
		if bytes.Compare(a, b) >= 0 || bytes.HasPrefix(b, a) {
			t.Errorf("%d has %v, %d has %v", l[i-1], a, l[i], b)
		}
	}
}

func TestErrors(t *testing.T) { // P1.1, P1.5
	for i, c := range []struct {
		b    []byte
		read func(s *wire.Source)
		want api.Errno
	}{
		{nil, func(s *wire.Source) { s.Int(0, 9) }, api.ErrForm},
		{[]byte{248}, func(s *wire.Source) { s.Int(0, 9) }, api.ErrForm},
		{[]byte{249, 0, 1}, func(s *wire.Source) { s.Int(0, 900) }, api.ErrForm},
		{[]byte{6, 255, 1}, func(s *wire.Source) { s.Int(-900, 0) }, api.ErrForm},
		{[]byte{255, 127, 255, 255, 255, 255, 255, 255, 136}, func(s *wire.Source) { s.Int(math.MinInt, math.MaxInt) }, api.ErrForm},
		{[]byte{0, 128, 0, 0, 0, 0, 0, 0, 119}, func(s *wire.Source) { s.Int(math.MinInt, math.MaxInt) }, api.ErrForm},
		{[]byte{138}, func(s *wire.Source) { s.Int(0, 9) }, api.ErrRange},
		{[]byte{127}, func(s *wire.Source) { s.Int(0, 9) }, api.ErrRange},
		{[]byte{130}, func(s *wire.Source) { s.Bool() }, api.ErrRange},
		{[]byte{127}, func(s *wire.Source) { s.Text(5) }, api.ErrLimit},
		{[]byte{131, 'a'}, func(s *wire.Source) { s.Text(2) }, api.ErrLimit},
		{[]byte{128}, func(s *wire.Source) { s.Text(-1) }, api.ErrLimit},
		{[]byte{131, 'a', 'b'}, func(s *wire.Source) { s.Text(3) }, api.ErrForm},
		{[]byte{248}, func(s *wire.Source) { s.Text(3) }, api.ErrForm},
		{[]byte{131}, func(s *wire.Source) { s.Ints(2, 0, 9) }, api.ErrLimit},
		{[]byte{255, 0x7f, 0, 0, 0, 0, 0, 0, 0}, func(s *wire.Source) { s.Ints(math.MaxInt, 0, 9) }, api.ErrForm},
		{[]byte{130, 138, 248}, func(s *wire.Source) { s.Ints(2, 0, 9) }, api.ErrRange},
		{[]byte{130, 128, 248}, func(s *wire.Source) { s.Ints(2, 0, 9) }, api.ErrForm},
		{[]byte{129, 131, 'a', 'b', 'c'}, func(s *wire.Source) { s.Texts(1, 2) }, api.ErrLimit},
		{[]byte{130, 129, 'a', 127}, func(s *wire.Source) { s.Texts(2, 2) }, api.ErrLimit},
		{[]byte{130, 129, 'a'}, func(s *wire.Source) { s.Texts(2, 2) }, api.ErrForm},
	} {
		s := wire.Source{Rest: c.b}
		c.read(&s)
		if s.Err != c.want || !bytes.Equal(s.Rest, c.b) || s.End() != c.want {
			t.Errorf("%d: %v", i, s)
		}
		s.Rest = []byte{129, 129, 'a'}
		if s.Int(0, 9) != 0 || s.Bool() || s.Text(9) != "" || s.Ints(9, 0, 9) != nil || s.Texts(9, 9) != nil || s.Err != c.want || len(s.Rest) != 3 {
			t.Errorf("%d: the source changed behind an error: %v", i, s)
		}
	}
}

func TestEndAndNil(t *testing.T) {
	s := wire.Source{Rest: []byte{128}}
	if s.End() != api.ErrForm || s.Err != api.OK {
		t.Errorf("%v", s)
	}
	var none *wire.Source
	if none.Int(0, 1) != 0 || none.Bool() || none.Text(1) != "" || none.Ints(1, 0, 1) != nil || none.Texts(1, 1) != nil || none.End() != api.ErrState {
		t.Error("methods of a nil source")
	}
}
