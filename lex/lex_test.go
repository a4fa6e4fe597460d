package lex_test

import (
	"math/big"
	"regexp"
	"slices"
	"strings"
	"testing"

	"suture/api"
	"suture/lex"
	"suture/place"
)

const keywords = "var wide atomic local mutex chan go lock unlock send recv print if else repeat goto label"

func word(text string, at complex128) lex.Token {
	return lex.Token{Kind: lex.Word, Text: text, At: at}
}

func number(text string, n int, at complex128) lex.Token {
	return lex.Token{Kind: lex.Number, Text: text, N: n, At: at}
}

func sign(text string, at complex128) lex.Token {
	return lex.Token{Kind: lex.Sign, Text: text, At: at}
}

func end(at complex128) lex.Token {
	return lex.Token{Kind: lex.End, At: at}
}

// is holds what Tokens tells of s, which has no fault, against want.
func is(t *testing.T, s string, want ...lex.Token) {
	t.Helper()
	got, at, e := lex.Tokens(s)
	if e != api.OK || at != 0 || !slices.Equal(got, want) {
		t.Errorf("2.1: Tokens(%.40q): %+v, %v, %d, not %+v", s, got, at, e, want)
	}
}

// isNone holds what Tokens tells of s, which has a fault, against its place.
func isNone(t *testing.T, s string, want complex128) {
	t.Helper()
	got, at, e := lex.Tokens(s)
	if e != api.ErrForm || at != want || len(got) != 0 {
		t.Errorf("2.1: Tokens(%.40q): %+v, %v, %d, not at %v", s, got, at, e, want)
	}
}

// TestExample: chapter 2's example.
func TestExample(t *testing.T) {
	is(t, "x==-12 # y", word("x", 1+1i), sign("==", 1+2i), sign("-", 1+4i), number("12", 12, 1+5i), end(1+11i))
}

// TestKinds: the kinds are numbered from 1 on.
func TestKinds(t *testing.T) {
	if lex.Word != 1 || lex.Number != 2 || lex.Sign != 3 || lex.End != 4 {
		t.Errorf("2.1: kinds: %d, %d, %d, %d", lex.Word, lex.Number, lex.Sign, lex.End)
	}
}

// TestBetween: what stands between tokens, and nothing else: End alone is told.
func TestBetween(t *testing.T) {
	is(t, "", end(1+1i))
	is(t, " ", end(1+2i))
	is(t, "\t", end(1+2i))
	is(t, "\n", end(2+1i))
	is(t, " \t\n\t ", end(2+3i))
	is(t, "\n\n\n", end(4+1i))
	is(t, "#", end(1+2i))
	is(t, "# x", end(1+4i))
	is(t, "# x\n", end(2+1i))
	is(t, "#\n#", end(2+2i))
	is(t, "##\n\n # #", end(3+5i))
	is(t, "# A?!_\r\x00\xff\u20ac 00", end(1+16i))
}

// TestAround: blanks, tabs, line feeds and notes part tokens; a note goes to the end of its line, and no further.
func TestAround(t *testing.T) {
	is(t, "a b", word("a", 1+1i), word("b", 1+3i), end(1+4i))
	is(t, "a\tb", word("a", 1+1i), word("b", 1+3i), end(1+4i))
	is(t, "a\nb", word("a", 1+1i), word("b", 2+1i), end(2+2i))
	is(t, " \n a \n ", word("a", 2+2i), end(3+2i))
	is(t, "a# b\nc", word("a", 1+1i), word("c", 2+1i), end(2+2i))
	is(t, "1#2\n#3\n\t4", number("1", 1, 1+1i), number("4", 4, 3+2i), end(3+3i))
	is(t, "=#\n=", sign("=", 1+1i), sign("=", 2+1i), end(2+2i))
	is(t, "= =", sign("=", 1+1i), sign("=", 1+3i), end(1+4i))
	is(t, "# one\n# two\nx", word("x", 3+1i), end(3+2i))
	is(t, "1 0", number("1", 1, 1+1i), number("0", 0, 1+3i), end(1+4i))
}

// TestWords: as many small letters and digits as follow, at most MaxWord.
func TestWords(t *testing.T) {
	is(t, "x", word("x", 1+1i), end(1+2i))
	is(t, "az", word("az", 1+1i), end(1+3i))
	is(t, "a09z", word("a09z", 1+1i), end(1+5i))
	is(t, "go{", word("go", 1+1i), sign("{", 1+3i), end(1+4i))
	is(t, "label1", word("label1", 1+1i), end(1+7i))
	is(t, "x007", word("x007", 1+1i), end(1+5i))

	long := strings.Repeat("a", api.MaxWord)
	is(t, long, word(long, 1+1i), end(1+13i))
	is(t, "a12345678901", word("a12345678901", 1+1i), end(1+13i))
	is(t, long+" "+long, word(long, 1+1i), word(long, 1+14i), end(1+26i))
	is(t, long+"=", word(long, 1+1i), sign("=", 1+13i), end(1+14i))
	isNone(t, long+"a", 1+1i)
	isNone(t, long+"0", 1+1i)
	isNone(t, "x\n y="+long+"b+1", 2+4i)
	isNone(t, strings.Repeat("a", 2*api.MaxWord), 1+1i)
	isNone(t, strings.Repeat("a", api.MaxText), 1+1i)
}

// TestNumbers: as many digits as follow, no needless zeros, at most 2^63 - 1.
func TestNumbers(t *testing.T) {
	is(t, "0", number("0", 0, 1+1i), end(1+2i))
	is(t, "7", number("7", 7, 1+1i), end(1+2i))
	is(t, "1234567890", number("1234567890", 1234567890, 1+1i), end(1+11i))
	is(t, "10", number("10", 10, 1+1i), end(1+3i))
	is(t, "1000000000000000000", number("1000000000000000000", 1000000000000000000, 1+1i), end(1+20i))
	is(t, "9223372036854775807", number("9223372036854775807", 1<<63-1, 1+1i), end(1+20i))
	is(t, "9223372036854775806", number("9223372036854775806", 1<<63-2, 1+1i), end(1+20i))
	is(t, "-1", sign("-", 1+1i), number("1", 1, 1+2i), end(1+3i))
	is(t, "+0", sign("+", 1+1i), number("0", 0, 1+2i), end(1+3i))
	is(t, "12ab", number("12", 12, 1+1i), word("ab", 1+3i), end(1+5i))
	is(t, "0x1", number("0", 0, 1+1i), word("x1", 1+2i), end(1+4i))
	is(t, "1e5", number("1", 1, 1+1i), word("e5", 1+2i), end(1+4i))

	isNone(t, "00", 1+1i)
	isNone(t, "01", 1+1i)
	isNone(t, "007", 1+1i)
	isNone(t, "x = 00", 1+5i)
	isNone(t, "1\n 2 03", 2+4i)
	isNone(t, "09223372036854775807", 1+1i)
	isNone(t, "9223372036854775808", 1+1i)
	isNone(t, "-9223372036854775808", 1+2i)
	isNone(t, "10000000000000000000", 1+1i)
	isNone(t, "18446744073709551616", 1+1i)
	isNone(t, "18446744073709551617", 1+1i)
	isNone(t, "x=92233720368547758070", 1+3i)
	isNone(t, strings.Repeat("9", api.MaxText), 1+1i)
	isNone(t, strings.Repeat("0", api.MaxText), 1+1i)
	isNone(t, "1_000", 1+2i)
	isNone(t, "1.5", 1+2i)
}

// TestSigns: `==` ahead of `=`, and each of the others.
func TestSigns(t *testing.T) {
	for _, s := range []string{"=", "<", "+", "-", "*", "/", "%", "(", ")", "{", "}", "=="} {
		n := complex(0, float64(len(s)))
		is(t, s, sign(s, 1+1i), end(1+1i+n))
		is(t, "x"+s+"y", word("x", 1+1i), sign(s, 1+2i), word("y", 1+2i+n), end(1+3i+n))
	}
	is(t, "===", sign("==", 1+1i), sign("=", 1+3i), end(1+4i))
	is(t, "====", sign("==", 1+1i), sign("==", 1+3i), end(1+5i))
	is(t, "<=", sign("<", 1+1i), sign("=", 1+2i), end(1+3i))
	is(t, "=<==", sign("=", 1+1i), sign("<", 1+2i), sign("==", 1+3i), end(1+5i))
	is(t, "--", sign("-", 1+1i), sign("-", 1+2i), end(1+3i))
	is(t, "//", sign("/", 1+1i), sign("/", 1+2i), end(1+3i))
}

// TestEachByte: every byte that may begin no token is none: alone, and behind each kind of token.
func TestEachByte(t *testing.T) {
	const known = "abcdefghijklmnopqrstuvwxyz0123456789=<+-*/%(){}# \t\n"
	for b := range 256 {
		s := string([]byte{byte(b)})
		if strings.Contains(known, s) {
			if l, at, e := lex.Tokens(s); e != api.OK || at != 0 || len(l) == 0 {
				t.Errorf("2.1: Tokens(%q): %v, %v, %d", s, l, at, e)
			}
			continue
		}
		isNone(t, s, 1+1i)
		isNone(t, "ab"+s, 1+3i)
		isNone(t, "12"+s, 1+3i)
		isNone(t, "=="+s, 1+3i)
		isNone(t, "# x\n\t"+s+" # y", 2+2i)
		is(t, "#"+s, end(1+3i))
	}
}

// TestFirstFault: of several faults the first is told; of one token's, where it begins.
func TestFirstFault(t *testing.T) {
	isNone(t, "x ? 00", 1+3i)
	isNone(t, "x 00 ?", 1+3i)
	isNone(t, "00?", 1+1i)
	isNone(t, "x\n\n!\n?", 3+1i)
	isNone(t, "aB", 1+2i)
	isNone(t, "A", 1+1i)
	isNone(t, "a\r\nb", 1+2i)
	isNone(t, "x_y", 1+2i)
	isNone(t, "\u00e9", 1+1i)
	isNone(t, "\u00a0x", 1+1i)
	isNone(t, "# \u00e9\n \u00e9", 2+2i)
	isNone(t, "a != b", 1+3i)
	isNone(t, "a > b", 1+3i)
	isNone(t, "a;b", 1+2i)
	isNone(t, "\v", 1+1i)
	isNone(t, "\f", 1+1i)
}

// TestLength: a text of MaxText bytes is read; of one of more the place is that of byte MaxText, whatever it holds.
func TestLength(t *testing.T) {
	const most = api.MaxText
	is(t, strings.Repeat(" ", most), end(1+6001i))
	is(t, strings.Repeat("\n", most), end(6001+1i))
	is(t, "#"+strings.Repeat("?", most-1), end(1+6001i))
	is(t, strings.Repeat("\n", most-1)+"x", word("x", 6000+1i), end(6000+2i))
	isNone(t, strings.Repeat(" ", most-1)+"?", 1+6000i)

	isNone(t, strings.Repeat(" ", most+1), 1+6001i)
	isNone(t, strings.Repeat("\n", most+1), 6001+1i)
	isNone(t, strings.Repeat("\n", most)+"x", 6001+1i)
	isNone(t, strings.Repeat("\n", most-3)+"abcd", 5998+4i)
	isNone(t, "?"+strings.Repeat(" ", most), 1+6001i)
	isNone(t, "00 A"+strings.Repeat("\n", most), 5997+1i)
	isNone(t, "#"+strings.Repeat("x", 2*most), 1+6001i)
	isNone(t, strings.Repeat("x", 1<<20), 1+6001i)
}

// TestMany: as many tokens as a text can hold, in one line and in many.
func TestMany(t *testing.T) {
	for s, step := range map[string]complex128{"(": 1i, "1 ": 2i, "a\n": 1} {
		n := api.MaxText / len(s)
		l, at, e := lex.Tokens(strings.Repeat(s, n))
		if e != api.OK || at != 0 || len(l) != n+1 {
			t.Fatalf("2.1: %d times %q: %d tokens, %v, %d", n, s, len(l), at, e)
		}
		for k, x := range l {
			want := 1 + 1i + complex(float64(k), 0)*step
			if x.At != want || (x.Kind == lex.End) != (k == n) {
				t.Fatalf("2.1: %d times %q: token %d: %+v, not at %v", n, s, k, x, want)
			}
		}
	}
}

// TestNewMemory: what is done to one answer, its spare room too, is not seen in another.
func TestNewMemory(t *testing.T) {
	const s = "x = 1 # y\ngo { z = 2 }"
	first, _, _ := lex.Tokens(s)
	kept := slices.Clone(first)
	spare := first[:cap(first)]
	for k := range spare {
		spare[k] = lex.Token{Kind: 9, Text: "q", N: 9, At: 9}
	}
	if second, _, _ := lex.Tokens(s); !slices.Equal(second, kept) {
		t.Errorf("R2: the second answer: %+v", second)
	}
}

var (
	gap     = regexp.MustCompile(`^([ \t\n]|#[^\n]*)+`)
	shape   = regexp.MustCompile(`^(?:([a-z][a-z0-9]*)|([0-9]+)|(==|[=<+*/%(){}-]))`)
	biggest = new(big.Int).SetUint64(1<<63 - 1)
)

// plain is 2.1's words, taken one by one over the rest of the text.
func plain(s string) ([]lex.Token, complex128, api.Errno) {
	if len(s) > api.MaxText {
		return nil, place.Of(s, api.MaxText), api.ErrForm
	}
	var list []lex.Token
	for rest := s; ; {
		rest = rest[len(gap.FindString(rest)):]
		at := place.Of(s, len(s)-len(rest))
		if rest == "" {
			return append(list, end(at)), 0, api.OK
		}
		m := shape.FindStringSubmatch(rest)
		if m == nil || len(m[1]) > api.MaxWord || len(m[2]) > 1 && m[2][0] == '0' {
			return nil, at, api.ErrForm
		}
		x := lex.Token{Text: m[0], At: at}
		switch {
		case m[1] != "":
			x.Kind = lex.Word
		case m[2] != "":
			x.Kind = lex.Number
			n, _ := new(big.Int).SetString(m[2], 10)
			if n.Cmp(biggest) > 0 {
				return nil, at, api.ErrForm
			}
			x.N = int(n.Int64())
		default:
			x.Kind = lex.Sign
		}
		list = append(list, x)
		rest = rest[len(m[0]):]
	}
}

// TestAllShort: all texts of up to five of these pieces are as 2.1 says.
func TestAllShort(t *testing.T) {
	pieces := []string{"a", "0", "7", "=", "-", " ", "\n", "#", "?", "go12345678"}
	layer := []string{""}
	for range 5 {
		var longer []string
		for _, s := range layer {
			for _, p := range pieces {
				longer = append(longer, s+p)
			}
		}
		for _, s := range longer {
			l, at, e := lex.Tokens(s)
			if l2, at2, e2 := plain(s); e != e2 || at != at2 || !slices.Equal(l, l2) {
				t.Fatalf("2.1: Tokens(%q): %+v, %v, %d, not %+v, %v, %d", s, l, at, e, l2, at2, e2)
			}
		}
		layer = longer
	}
}

// TestKeyword: each keyword is one, and no name; a keyword with one letter more or less, or with something around it, is none.
func TestKeyword(t *testing.T) {
	all := strings.Fields(keywords)
	if len(all) != 17 {
		t.Fatal("there are 17 keywords")
	}
	for _, s := range all {
		if !lex.Keyword(s) || lex.IsName(s) {
			t.Errorf("2.1: %s: Keyword %t, IsName %t", s, lex.Keyword(s), lex.IsName(s))
		}
		for _, near := range []string{s + "s", s + "0", "x" + s, s[:len(s)-1]} {
			if lex.Keyword(near) || !lex.IsName(near) {
				t.Errorf("2.1: %s: Keyword %t, IsName %t", near, lex.Keyword(near), lex.IsName(near))
			}
		}
		for _, near := range []string{s + " ", " " + s, s + "\n", strings.ToUpper(s), strings.ToUpper(s[:1]) + s[1:], s + "\x00"} {
			if lex.Keyword(near) || lex.IsName(near) {
				t.Errorf("2.1: %q: Keyword %t, IsName %t", near, lex.Keyword(near), lex.IsName(near))
			}
		}
		is(t, s, word(s, 1+1i), end(complex(1, float64(len(s)+1))))
	}
	for _, s := range []string{"", keywords, "lockunlock", "while", "func", "==", "1"} {
		if lex.Keyword(s) {
			t.Errorf("2.1: Keyword(%q)", s)
		}
	}
}

// TestIsName: a word, all of it, and nothing else.
func TestIsName(t *testing.T) {
	long := strings.Repeat("z", api.MaxWord)
	for s, want := range map[string]bool{
		"x": true, "a": true, "z": true, "a0": true, "z9": true, "fix0": true, "a1b2": true, "while": true,
		long: true, "a12345678901": true, long + "z": false, long + "0": false, strings.Repeat("a", 1<<20): false,
		"": false, " ": false, "0": false, "1a": false, "A": false, "aB": false, "Ab": false, "a_b": false, "_": false,
		"a b": false, " a": false, "a ": false, "a\n": false, "\na": false, "a#": false, "#a": false, "a-b": false, "a=": false,
		"==": false, "{": false, "\u00e9": false, "a\u00e9": false, "a\x00": false, "\xff": false, "`": false, "a{": false, "a/": false, "a:": false,
	} {
		if lex.IsName(s) != want {
			t.Errorf("2.1: IsName(%.20q): %t", s, !want)
		}
	}
}

// TestNamesAreWords: IsName, held against what Tokens tells, of all texts of up to two bytes.
func TestNamesAreWords(t *testing.T) {
	for a := range 256 {
		for b := range 257 {
			s := string([]byte{byte(a)})
			if b < 256 {
				s += string([]byte{byte(b)})
			}
			l, _, e := lex.Tokens(s)
			want := e == api.OK && l[0].Kind == lex.Word && l[0].Text == s && !lex.Keyword(s)
			if lex.IsName(s) != want {
				t.Errorf("2.1: IsName(%q): %t", s, !want)
			}
		}
	}
}
