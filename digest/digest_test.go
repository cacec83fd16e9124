package digest_test

import (
	"bytes"
	"math"
	"math/big"
	"math/rand"
	"testing"

	"framewise/api"
	"framewise/digest"
)

// slow computes a digest by its definition.
func slow(b []byte) int {
	p, d := big.NewInt(digest.P), new(big.Int)
	for _, c := range b {
		d.Mul(d, big.NewInt(digest.X))
		d.Add(d, big.NewInt(int64(c)+1))
		d.Mod(d, p)
	}
	return int(d.Int64())
}

func product(a, b int) int {
	n := new(big.Int).Mul(big.NewInt(int64(a)), big.NewInt(int64(b)))
	return int(n.Mod(n, big.NewInt(digest.P)).Int64())
}

func random(r *rand.Rand, n int) []byte {
	b := make([]byte, n)
	r.Read(b)
	return b
}

func TestOf(t *testing.T) { // P2.1
	if digest.Of(nil) != 0 || digest.Of([]byte{0, 1}) != 1000005 {
		t.Error("examples")
	}
	r := rand.New(rand.NewSource(1))
	for n := 0; n < 300; n++ {
		if b := random(r, n); digest.Of(b) != slow(b) {
			t.Errorf("the digest of %v", b)
		}
	}
}

func TestParts(t *testing.T) { // P2.2
	r := rand.New(rand.NewSource(2))
	for i := 0; i < 300; i++ {
		a, b, c := random(r, r.Intn(50)), random(r, r.Intn(50)), random(r, r.Intn(50))
		ab, abc := append(a[:len(a):len(a)], b...), append(append(a[:len(a):len(a)], b...), c...)
		more, e := digest.More(digest.Of(a), b)
		if more != digest.Of(ab) || e != api.OK {
			t.Fatalf("More: %d %d", more, e)
		}
		left, _ := digest.Join(more, digest.Of(c), len(c))
		bc, _ := digest.Join(digest.Of(b), digest.Of(c), len(c))
		right, _ := digest.Join(digest.Of(a), bc, len(b)+len(c))
		if left != right || left != digest.Of(abc) {
			t.Fatalf("Join: %d %d", left, right)
		}
	}
}

func TestChanges(t *testing.T) { // P2.3
	r := rand.New(rand.NewSource(3))
	for i := 0; i < 300; i++ {
		b := random(r, 2+r.Intn(60))
		d, k := digest.Of(b), r.Intn(len(b)-1)
		c := bytes.Clone(b)
		c[k] ^= byte(1 + r.Intn(255))
		if digest.Of(c) == d {
			t.Errorf("one byte changed: %v %v", b, c)
		}
		c = bytes.Clone(b)
		c[k], c[k+1] = c[k+1], c[k]
		if b[k] != b[k+1] && digest.Of(c) == d {
			t.Errorf("two bytes exchanged: %v %v", b, c)
		}
	}
}

func TestPowers(t *testing.T) { // P2.4
	r := rand.New(rand.NewSource(4))
	for i := 0; i < 500; i++ {
		m, n := r.Intn(100), r.Int()>>1
		if i%2 == 0 {
			n = r.Intn(100)
		}
		a, _ := digest.Power(m)
		b, _ := digest.Power(n)
		c, e := digest.Power(m + n)
		if c != product(a, b) || e != api.OK {
			t.Fatalf("%d %d", m, n)
		}
	}
	for n, want := range []int{1, digest.X, digest.X * digest.X} {
		if p, _ := digest.Power(n); p != want {
			t.Errorf("%d: %d", n, p)
		}
	}
	a, _ := digest.Join(digest.P-1, digest.P-1, math.MaxInt)
	x, _ := digest.Power(math.MaxInt)
	if a != (product(digest.P-1, x)+digest.P-1)%digest.P {
		t.Error("great numbers")
	}
}

func TestSealing(t *testing.T) { // P2.5
	r := rand.New(rand.NewSource(5))
	for n := 0; n < 40; n++ {
		b := random(r, n)
		s := digest.Seal(b)
		if p, e := digest.Open(s); !bytes.Equal(p, b) || e != api.OK || len(s) != n+8 {
			t.Fatalf("%v", s)
		}
		for k := range s {
			s[k] ^= byte(1 + r.Intn(255))
			if p, e := digest.Open(s); p != nil || e != api.ErrSum {
				t.Fatalf("a changed byte: %v %d", s, e)
			}
			s = digest.Seal(b)
		}
	}
	if _, e := digest.Open(make([]byte, 7)); e != api.ErrForm {
		t.Error("seven bytes")
	}
	if p, e := digest.Open(make([]byte, 8)); len(p) != 0 || e != api.OK {
		t.Error("the sealed empty string")
	}
	b := make([]byte, 1, 20)
	digest.Seal(b)[0] = 1
	if b[0] != 0 || b[:20][1] != 0 || b[:20][8] != 0 {
		t.Error("Seal shares memory")
	}
}

func TestTexts(t *testing.T) { // P2.6
	r := rand.New(rand.NewSource(6))
	for i := 0; i < 300; i++ {
		d := []int{0, 1, digest.P - 1, r.Intn(digest.P)}[i%4]
		s, e := digest.Print(d)
		if n, f := digest.Parse(s); n != d || e != api.OK || f != api.OK || len(s) != 16 {
			t.Fatalf("%d %q", d, s)
		}
	}
	if s, _ := digest.Print(digest.Of([]byte{0, 1})); s != "00000000000f4245" {
		t.Errorf("%q", s)
	}
	for s, want := range map[string]api.Errno{
		"": api.ErrSyntax, "000000000000000": api.ErrSyntax, "00000000000000000": api.ErrSyntax, "00000000000f424A": api.ErrSyntax, "00000000000f424g": api.ErrSyntax, "-000000000000001": api.ErrSyntax,
		"1fffffffffffffff": api.ErrRange, "ffffffffffffffff": api.ErrRange, "8000000000000000": api.ErrRange, "1ffffffffffffffe": api.OK,
	} {
		if d, e := digest.Parse(s); e != want || e != api.OK && d != 0 {
			t.Errorf("%q: %d %d", s, d, e)
		}
	}
}

func TestRanges(t *testing.T) { // P2.1
	for _, d := range []int{-1, digest.P, math.MinInt, math.MaxInt} {
		if n, e := digest.More(d, nil); n != 0 || e != api.ErrRange {
			t.Errorf("More: %d", d)
		}
		if n, e := digest.Join(d, 0, 0); n != 0 || e != api.ErrRange {
			t.Errorf("Join: %d", d)
		}
		if n, e := digest.Join(0, d, 0); n != 0 || e != api.ErrRange {
			t.Errorf("Join: %d", d)
		}
		if s, e := digest.Print(d); s != "" || e != api.ErrRange {
			t.Errorf("Print: %d", d)
		}
	}
	if _, e := digest.Join(0, 0, -1); e != api.ErrRange {
		t.Error("Join with a negative length")
	}
	if _, e := digest.Power(math.MinInt); e != api.ErrRange {
		t.Error("a negative power")
	}
}
