package lexer_test

import (
	"math/rand"
	"strconv"
	"strings"
	"testing"

	"framewise/api"
	"framewise/lexer"
)

// show writes tokens with the first letters of their kinds.
func show(l []lexer.Token) string {
	var parts []string
	for _, t := range l {
		parts = append(parts, "?nwds"[t.Kind:t.Kind+1]+t.Text)
	}
	return strings.Join(parts, " ")
}

func TestLex(t *testing.T) { // P24.1, P24.3
	long := strings.Repeat("a", 30)
	for text, want := range map[string]string{
		"": "", " \t\n": "", "// x": "", "//\n//": "",
		"def f(x) = -x // sign": "wdef nf s( nx s) s= s- nx",
		"a..b":                  "na s.. nb", "a<==b": "na s<= s= nb", "a...b": "na s.. s. nb", "12ab3 0": "d12 nab3 d0", "2147483648": "d2147483648",
		"bool boolx in int1 size": "wbool nboolx win nint1 wsize", "a/b//c\n/d": "na s/ nb s/ nd", "a->b-->c": "na s-> nb s- s-> nc", "&&||!!=": "s&& s|| s! s!=", "(){}[],:.@#%*": "s( s) s{ s} s[ s] s, s: s. s@ s# s% s*", long: "n" + long, ">=>===": "s>= s>= s==", "0x": "d0 nx",
	} {
		l, at, e := lexer.Lex(text)
		if show(l) != want || at != 0 || e != api.OK {
			t.Errorf("%q: %s %d %d", text, show(l), at, e)
		}
	}
	for i, c := range []struct {
		text string
		at   int
		e    api.Errno
	}{
		{"a b &", 4, api.ErrSyntax}, {"a | b", 2, api.ErrSyntax}, {"x 01", 2, api.ErrSyntax}, {"2147483649", 0, api.ErrSyntax}, {" 99999999999999999999", 1, api.ErrSyntax}, {"x\r", 1, api.ErrSyntax}, {"X", 0, api.ErrSyntax}, {"a_b", 1, api.ErrSyntax}, {"x é", 2, api.ErrSyntax}, {"  " + long + "a", 2, api.ErrSyntax}, {"\x00", 0, api.ErrSyntax}, {"$ X", 0, api.ErrSyntax},
		{strings.Repeat(" ", 20001), 0, api.ErrLimit}, {strings.Repeat(" ", 20000), 0, api.OK}, {strings.Repeat("a ", 4001), 8000, api.ErrLimit}, {strings.Repeat("a ", 4000), 0, api.OK}, {strings.Repeat("a ", 4000) + "&", 8000, api.ErrSyntax}, {strings.Repeat("a ", 4000) + "b &", 8000, api.ErrLimit},
	} {
		l, at, e := lexer.Lex(c.text)
		if at != c.at || e != c.e || e != api.OK && l != nil {
			t.Errorf("%d: %d %d", i, at, e)
		}
	}
}

func TestNames(t *testing.T) { // P24.1
	for s, want := range map[string][3]bool{ // Reserved, IsName, IsFull
		"x": {false, true, false}, "def": {true, false, false}, "x1": {false, true, false}, "": {}, "1x": {}, "X": {}, "x ": {}, " x": {}, "x.y": {false, false, true}, "x.y.z": {}, "x.": {}, ".x": {}, "x.def": {}, "in.x": {}, "x .y": {}, "where": {true, false, false}, "xwhere": {false, true, false}, "x/": {}, strings.Repeat("a", 31): {},
	} {
		if got := [3]bool{lexer.Reserved(s), lexer.IsName(s), lexer.IsFull(s)}; got != want {
			t.Errorf("%q: %v", s, got)
		}
	}
	for s, want := range map[string]int{"0": 0, "7": 7, "2147483648": 2147483648, "2147483649": -1, "01": -1, "": -1, "-1": -1, "1x": -1, "1 ": -1, "x": -1} {
		if n, ok := lexer.Value(s); ok != (want >= 0) || n != max(want, 0) {
			t.Errorf("%q: %d", s, n)
		}
	}
}

func TestApart(t *testing.T) { // P24.1
	tok := func(s string) lexer.Token { return lexer.Token{Text: s} }
	for _, c := range []struct {
		a, b string
		want bool
	}{
		{"a", "b", true}, {"a", "1", true}, {"1", "a", false}, {"1", "2", true}, {"a", "(", false}, {"-", ">", true}, {"/", "/", true}, {"=", "=", true}, {".", ".", true}, {"..", ".", false}, {".", "..", true}, {"<", "-", false}, {"!", "=", true}, {"def", "f", true}, {"", "a", true}, {"a b", "c", true}, {"&", "&", true}, {strings.Repeat("a", 20000), "b", true},
	} {
		if lexer.Apart(tok(c.a), tok(c.b)) != c.want {
			t.Errorf("%q %q", c.a, c.b)
		}
	}
	l := []lexer.Token{{Text: "a", Line: 1}, {Text: "b", Line: 1}, {Text: "(", Line: 2}, {Text: "-", Line: 2}, {Text: ">", Line: 1}}
	if s := lexer.Join(l); s != "a b\n(- >" {
		t.Errorf("%q", s)
	}
	if lexer.Join(nil) != "" {
		t.Error("nothing")
	}
}

// random returns a text of pieces, most of which are tokens.
func random(r *rand.Rand, n int) string {
	pieces := strings.Fields("a b1 def in 0 17 ( ) [ ] { } , : . .. @ # = == != < <= > >= + - -> * / % ! && ||")
	s := ""
	for i := 0; i < n; i++ {
		switch r.Intn(8) {
		case 0:
			s += "\n"
		case 1:
			s += " \t"
		case 2:
			s += "// " + strconv.Itoa(i) + " &\n"
		default:
			s += pieces[r.Intn(len(pieces))]
		}
	}
	return s
}

func TestRandom(t *testing.T) { // P24.2, P24.4, P24.5, P24.6
	r := rand.New(rand.NewSource(1))
	for i := 0; i < 3000; i++ {
		text := random(r, 12)
		l, at, e := lexer.Lex(text)
		if e != api.OK {
			// What follows the place of an error does not matter.
			if _, again, f := lexer.Lex(text[:at+1] + " &&& "); again != at && text[at] != '0' || f != e {
				t.Fatalf("%q: %d %d", text, at, again)
			}
			continue
		}
		rest := text
		end := 0
		for _, k := range l {
			if text[k.At:k.At+len(k.Text)] != k.Text || k.At < end || k.Line != 1+strings.Count(text[:k.At], "\n") {
				t.Fatalf("%q: %v", text, k)
			}
			between := text[end:k.At]
			for _, line := range strings.SplitAfter(between, "\n") {
				line, _, _ = strings.Cut(line, "//")
				if strings.Trim(line, " \t\n") != "" {
					t.Fatalf("%q: %q between tokens", text, between)
				}
			}
			end = k.At + len(k.Text)
		}
		joined, _, e := lexer.Lex(lexer.Join(l))
		if show(joined) != show(l) || e != api.OK {
			t.Fatalf("%q: %q", rest, lexer.Join(l))
		}
		other := random(r, 5)
		m, _, f := lexer.Lex(other)
		both, _, g := lexer.Lex(text + "\n" + other)
		if f == api.OK && (g != api.OK || strings.TrimSpace(show(l)+" "+show(m)) != show(both)) {
			t.Fatalf("%q and %q", text, other)
		}
	}
}
