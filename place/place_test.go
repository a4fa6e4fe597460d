package place_test

import (
	"math"
	"strings"
	"testing"

	"suture/place"
)

// texts are those that the document's edges ask for, and all of up to eight
// bytes over a letter and a line feed.
func texts() []string {
	all := []string{
		"", "\n", "\n\n", "\n\n\n", "a", "ab", "ab\nc", "\nab", "ab\n", "\nab\n", "a\n\n\nb",
		"\r\n\r\n", "\t x\n\t", "\x00\n\xff\xfe\n", "\u00e9\n\u20ac\U0001f600x\n", "#\v\f\u0085\u2028\n",
		strings.Repeat("x", 300), strings.Repeat("\n", 300), strings.Repeat("var x\n", 60),
	}
	layer := []string{""}
	for range 8 {
		var longer []string
		for _, s := range layer {
			longer = append(longer, s+"a", s+"\n")
		}
		all = append(all, longer...)
		layer = longer
	}
	return all
}

// counted is 1.1's words, taken one by one.
func counted(s string, at int) complex128 {
	line, column := 1, 1
	for k := 0; k < at; k++ {
		column++
		if s[k] == '\n' {
			line, column = line+1, 1
		}
	}
	return complex(float64(line), float64(column))
}

// TestExample: chapter 1's example.
func TestExample(t *testing.T) {
	if got := place.Of("ab\nc", 3); got != 2+1i {
		t.Errorf("1.1: Of(\"ab\\nc\", 3): %v", got)
	}
}

// TestOfParts: real is the line, imag the column; both from 1 on, the column in bytes.
func TestOfParts(t *testing.T) {
	for _, c := range []struct {
		s            string
		at           int
		line, column float64
	}{
		{"", 0, 1, 1},
		{"abc", 0, 1, 1}, {"abc", 2, 1, 3}, {"abc", 3, 1, 4},
		{"\nab", 0, 1, 1}, {"\nab", 1, 2, 1}, {"\nab", 3, 2, 3},
		{"ab\n", 2, 1, 3}, {"ab\n", 3, 2, 1},
		{"\n\n\n", 1, 2, 1}, {"\n\n\n", 2, 3, 1}, {"\n\n\n", 3, 4, 1},
		{"a\n\nb", 2, 2, 1}, {"a\n\nb", 3, 3, 1},
		{"\u00e9x", 2, 1, 3}, {"\u20ac\n\u20acx", 7, 2, 4},
		{"a\rb", 2, 1, 3}, {"a\r\nb", 3, 2, 1},
		{"\x00\xff\n\xff", 3, 2, 1}, {"\x00\xff\n\xff", 4, 2, 2},
	} {
		got := place.Of(c.s, c.at)
		if real(got) != c.line || imag(got) != c.column {
			t.Errorf("1.1: Of(%q, %d): %v", c.s, c.at, got)
		}
	}
}

// TestOfEach: Of is as counted, at every byte and at the end.
func TestOfEach(t *testing.T) {
	for _, s := range texts() {
		for at := 0; at <= len(s); at++ {
			if got, want := place.Of(s, at), counted(s, at); got != want {
				t.Errorf("1.1: Of(%q, %d): %v, not %v", s, at, got, want)
			}
		}
	}
}

// TestOfBeyond: an at below 0 is the beginning, one past the end the end.
func TestOfBeyond(t *testing.T) {
	for _, s := range texts() {
		for _, at := range []int{-1, -2, -99, math.MinInt32, math.MinInt} {
			if got := place.Of(s, at); got != 1+1i {
				t.Errorf("1.1: Of(%q, %d): %v", s, at, got)
			}
		}
		end := counted(s, len(s))
		for _, at := range []int{len(s) + 1, len(s) + 2, math.MaxInt32, math.MaxInt} {
			if got := place.Of(s, at); got != end {
				t.Errorf("1.1: Of(%q, %d): %v, not %v", s, at, got, end)
			}
		}
	}
}

// TestBackEach: Back finds each place that there is, and none that there isn't.
func TestBackEach(t *testing.T) {
	for _, s := range texts() {
		if len(s) > 20 {
			continue
		}
		where := map[complex128]int{}
		for at := 0; at <= len(s); at++ {
			where[counted(s, at)] = at
		}
		for line := -1; line <= len(s)+3; line++ {
			for column := -1; column <= len(s)+3; column++ {
				p := complex(float64(line), float64(column))
				want, there := where[p]
				if got, ok := place.Back(s, p); got != want || ok != there {
					t.Errorf("1.1: Back(%q, %v): %d, %t", s, p, got, ok)
				}
			}
		}
	}
}

// TestBackNone: places that no text has.
func TestBackNone(t *testing.T) {
	nan, inf := math.NaN(), math.Inf(1)
	odd := []float64{
		0, math.Copysign(0, -1), -1, -2, 0.5, 1.5, 2.5, 1.0000000000000002, 0.9999999999999999, 1e-300, math.SmallestNonzeroFloat64,
		1 << 31, 1<<31 + 1, 1 << 32, 1<<32 + 1, 1 << 53, 1<<63 + 1, 1 << 64, 1e300, math.MaxFloat64, -1 << 31, -1 << 63, -1e300, inf, -inf, nan,
	}
	for _, s := range texts() {
		for _, x := range odd {
			for _, p := range []complex128{complex(x, 1), complex(1, x), complex(x, x), complex(x, 2), complex(2, x)} {
				if got, ok := place.Back(s, p); got != 0 || ok {
					t.Errorf("1.1: Back(%q, %v): %d, %t", s, p, got, ok)
				}
			}
		}
	}
}

// TestBackBesideLines: a place behind the end of a line is not one of the next line.
func TestBackBesideLines(t *testing.T) {
	for _, c := range []struct {
		s    string
		p    complex128
		want int
		ok   bool
	}{
		{"", 1 + 1i, 0, true}, {"", 1 + 2i, 0, false}, {"", 2 + 1i, 0, false},
		{"ab\nc", 1 + 3i, 2, true}, {"ab\nc", 1 + 4i, 0, false}, {"ab\nc", 2 + 1i, 3, true},
		{"ab\nc", 2 + 2i, 4, true}, {"ab\nc", 2 + 3i, 0, false}, {"ab\nc", 3 + 1i, 0, false},
		{"\n\n", 2 + 1i, 1, true}, {"\n\n", 3 + 1i, 2, true}, {"\n\n", 2 + 2i, 0, false}, {"\n\n", 4 + 1i, 0, false},
		{"ab\n", 2 + 1i, 3, true}, {"ab\n", 2 + 2i, 0, false},
		{"ab\nc", 1 + 2i, 1, true}, {"ab\nc", 2 - 1i, 0, false}, {"ab\nc", -2 + 1i, 0, false},
	} {
		if got, ok := place.Back(c.s, c.p); got != c.want || ok != c.ok {
			t.Errorf("1.1: Back(%q, %v): %d, %t", c.s, c.p, got, ok)
		}
	}
}

// TestPrintParts: each part by itself, as line and as column.
func TestPrintParts(t *testing.T) {
	nan, inf := math.NaN(), math.Inf(1)
	for _, c := range []struct {
		x    float64
		want string
	}{
		{1, "1"}, {2, "2"}, {10, "10"}, {6000, "6000"}, {1000000, "1000000"}, {123456789, "123456789"},
		{0, "0"}, {math.Copysign(0, -1), "0"}, {0.5, "0"}, {0.9999999999999999, "0"}, {math.SmallestNonzeroFloat64, "0"},
		{1.5, "1"}, {1.9999999, "1"}, {12.99, "12"}, {2.5, "2"}, {3.5, "3"},
		{-0.5, "0"}, {-0.999, "0"}, {-1, "0"}, {-1.5, "0"}, {-7, "0"}, {-1 << 31, "0"}, {-1 << 63, "0"}, {-1e300, "0"},
		{1<<31 - 1, "2147483647"}, {1<<31 - 0.5, "2147483647"}, {1 << 31, "2147483648"}, {1<<31 + 0.5, "2147483648"},
		{1<<31 + 1, "2147483648"}, {1 << 32, "2147483648"}, {1 << 63, "2147483648"}, {1 << 64, "2147483648"}, {1e300, "2147483648"},
		{math.MaxFloat64, "2147483648"}, {inf, "2147483648"}, {-inf, "0"}, {nan, "0"},
	} {
		if got := place.Print(complex(c.x, 3)); got != c.want+":3" {
			t.Errorf("1.1: Print, line %v: %s", c.x, got)
		}
		if got := place.Print(complex(4, c.x)); got != "4:"+c.want {
			t.Errorf("1.1: Print, column %v: %s", c.x, got)
		}
		if got := place.Print(complex(c.x, c.x)); got != c.want+":"+c.want {
			t.Errorf("1.1: Print, both %v: %s", c.x, got)
		}
	}
	if got := place.Print(place.Of("ab\nc", 3)); got != "2:1" {
		t.Errorf("1.1: Print of a text's place: %s", got)
	}
}

// TestLess: by line, then by column.
func TestLess(t *testing.T) {
	nan, inf := math.NaN(), math.Inf(1)
	for _, c := range []struct {
		a, b complex128
		want bool
	}{
		{1 + 1i, 1 + 1i, false}, {1 + 1i, 1 + 2i, true}, {1 + 2i, 1 + 1i, false},
		{1 + 1i, 2 + 1i, true}, {2 + 1i, 1 + 1i, false}, {1 + 99i, 2 + 1i, true}, {2 + 1i, 1 + 99i, false},
		{9 + 1i, 10 + 1i, true}, {1 + 9i, 1 + 10i, true},
		{-1 + 1i, 1i, true}, {-1i, 0, true}, {1.25 + 1i, 1.5 + 1i, true}, {1 + 1.25i, 1 + 1.5i, true}, {1.5 + 1i, 1.25 + 9i, false},
		{0, complex(math.Copysign(0, -1), 1), true}, {complex(math.Copysign(0, -1), 0), 0, false},
		{complex(1, 1), complex(inf, 1), true}, {complex(inf, 1), complex(1, 1), false}, {complex(-inf, 1), complex(1, 1), true},
		{complex(inf, 1), complex(inf, 2), true}, {complex(inf, 2), complex(inf, 1), false}, {complex(inf, inf), complex(inf, inf), false},
		{complex(1, -inf), complex(1, inf), true}, {complex(1<<31, 1), complex(1<<31+1, 1), true},
		{complex(nan, 1), complex(1, 2), false}, {complex(1, 1), complex(nan, 2), false}, {complex(nan, 1), complex(nan, 2), false},
		{complex(1, nan), complex(1, 2), false}, {complex(1, 1), complex(1, nan), false}, {complex(1, nan), complex(1, nan), false},
		{complex(nan, nan), complex(nan, nan), false}, {complex(2, nan), complex(1, nan), false},
		{complex(1, nan), complex(2, 1), true}, {complex(1, 1), complex(2, nan), true}, // the lines decide
	} {
		if got := place.Less(c.a, c.b); got != c.want {
			t.Errorf("1.1: Less(%v, %v): %t", c.a, c.b, got)
		}
	}
}

// TestOwnPlaces: each byte, and the end, has a place of its own; Back leads to it again.
func TestOwnPlaces(t *testing.T) {
	for _, s := range texts() {
		seen := map[complex128]int{}
		for at := 0; at <= len(s); at++ {
			p := place.Of(s, at)
			if other, twice := seen[p]; twice {
				t.Errorf("1.2: %q: %d and %d both stand at %v", s, other, at, p)
			}
			seen[p] = at
			if got, ok := place.Back(s, p); got != at || !ok {
				t.Errorf("1.2: Back(%q, %v): %d, %t, not %d", s, p, got, ok, at)
			}
		}
	}
}

// TestRise: a place is less than another if, and only if, it is of an earlier byte.
func TestRise(t *testing.T) {
	for _, s := range texts() {
		places := make([]complex128, 0, len(s)+1)
		for at := 0; at <= len(s); at++ {
			places = append(places, place.Of(s, at))
		}
		for a, p := range places {
			for b, q := range places {
				if got := place.Less(p, q); got != (a < b) {
					t.Errorf("1.2: %q: Less of %d and %d: %t", s, a, b, got)
				}
			}
		}
	}
}

// TestLong: more columns, and more lines, than a float of 32 bits can count.
func TestLong(t *testing.T) {
	const n = 1<<24 + 1
	line, lines := strings.Repeat("x", n), strings.Repeat("\n", n)
	for _, c := range []struct {
		s    string
		want complex128
	}{{line, complex(1, n+1)}, {lines, complex(n+1, 1)}} {
		if got := place.Of(c.s, n); got != c.want {
			t.Errorf("1.1: Of the end of a long text: %v, not %v", got, c.want)
		}
		if got, ok := place.Back(c.s, c.want); got != n || !ok {
			t.Errorf("1.1: Back of the end of a long text: %d, %t", got, ok)
		}
		if !place.Less(place.Of(c.s, n-1), place.Of(c.s, n)) {
			t.Error("1.2: the end of a long text does not rise")
		}
	}
}
