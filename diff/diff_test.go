package diff_test

import (
	"fmt"
	"math/rand"
	"regexp"
	"slices"
	"strconv"
	"strings"
	"testing"

	"suture/api"
	"suture/diff"
)

// check holds Of, of a and b, against want, and Apply of it against b.
func check(t *testing.T, a, b, want string) {
	t.Helper()
	d := diff.Of(a, b)
	if d != want {
		t.Errorf("7.1: Of(%.200q, %.200q): %.200q, not %.200q", a, b, d, want)
	}
	applies(t, a, want, b)
}

// applies holds Apply, of a and d, against want.
func applies(t *testing.T, a, d, want string) {
	t.Helper()
	if got, e := diff.Apply(a, d); got != want || e != api.OK {
		t.Errorf("7.2: Apply(%.200q, %.200q): %.200q, %d, not %.200q", a, d, got, e, want)
	}
}

// refuses holds that d is no diff of a.
func refuses(t *testing.T, a, d string) {
	t.Helper()
	if got, e := diff.Apply(a, d); got != "" || e != api.ErrForm {
		t.Errorf("7.2: Apply(%.200q, %.200q): %.200q, %d, not ErrForm alone", a, d, got, e)
	}
}

// TestExample: chapter 7's example.
func TestExample(t *testing.T) {
	check(t, "x\n", "x\ny", "=1\n+1:y\n")
}

// TestLines: cut behind line feeds and behind nothing else.
func TestLines(t *testing.T) {
	for _, c := range []struct {
		s    string
		want []string
	}{
		{"", nil},
		{"a", []string{"a"}},
		{"a\n", []string{"a\n"}},
		{"\n", []string{"\n"}},
		{"\n\n\n", []string{"\n", "\n", "\n"}},
		{"\na", []string{"\n", "a"}},
		{"a\nb", []string{"a\n", "b"}},
		{"a\nb\n", []string{"a\n", "b\n"}},
		{"a\n\nb\n", []string{"a\n", "\n", "b\n"}},
		{"a\n\n", []string{"a\n", "\n"}},
		{"a\r\nb\rc\r\n", []string{"a\r\n", "b\rc\r\n"}},
		{"a\x00b\n\x00", []string{"a\x00b\n", "\x00"}},
		{"\t \v\f\n \n", []string{"\t \v\f\n", " \n"}},
		{"\u2028\u0085é\n\xff\xfe\n\xe2\n", []string{"\u2028\u0085é\n", "\xff\xfe\n", "\xe2\n"}},
	} {
		if got := diff.Lines(c.s); !slices.Equal(got, c.want) {
			t.Errorf("7.1: Lines(%q): %q, not %q", c.s, got, c.want)
		}
	}
}

// TestLinesOfAll: all texts of up to 7 bytes: joined again they are the text, and no line has a line feed but at its end, where all but the last one have it.
func TestLinesOfAll(t *testing.T) {
	for _, s := range words("a\n\r", 7) {
		list := diff.Lines(s)
		if strings.Join(list, "") != s {
			t.Fatalf("7.1: Lines(%q): %q", s, list)
		}
		for k, line := range list {
			at := strings.IndexByte(line, '\n')
			if line == "" || at >= 0 && at < len(line)-1 || at < 0 && k < len(list)-1 {
				t.Fatalf("7.1: Lines(%q): %q", s, list)
			}
		}
	}
}

// TestOf: which lines are kept, dropped and added, in which order.
func TestOf(t *testing.T) {
	for _, c := range []struct{ a, b, want string }{
		{"", "", ""},
		{"a", "a", "=1\n"},
		{"a\n", "a\n", "=1\n"},
		{"a\nb\nc", "a\nb\nc", "=3\n"},
		{"\n\n", "\n\n", "=2\n"},
		{"", "a", "+1:a\n"},
		{"", "a\n", "+2:a\n\n"},
		{"", "\n", "+1:\n\n"},
		{"", "\n\n", "+1:\n\n+1:\n\n"},
		{"a", "", "-1\n"},
		{"a\n\n", "", "-2\n"},
		// alike at the beginning, at the end, on both sides, in the middle
		{"a\nb\n", "a\nc\n", "=1\n-1\n+2:c\n\n"},
		{"a\nb\n", "a\n", "=1\n-1\n"},
		{"a\n", "a\nb\n", "=1\n+2:b\n\n"},
		{"b\na\n", "c\na\n", "-1\n+2:c\n\n=1\n"},
		{"b\na\n", "a\n", "-1\n=1\n"},
		{"a\n", "b\na\n", "+2:b\n\n=1\n"},
		{"a\nb\nc\n", "a\nd\nc\n", "=1\n-1\n+2:d\n\n=1\n"},
		{"a\nb\nc\n", "a\nc\n", "=1\n-1\n=1\n"},
		{"a\nc\n", "a\nb\nc\n", "=1\n+2:b\n\n=1\n"},
		{"a\nx\ny\nb\n", "c\nx\ny\nd\n", "-1\n+2:c\n\n=2\n-1\n+2:d\n\n"},
		// no more than the last line feed
		{"a\n", "a", "-1\n+1:a\n"},
		{"a", "a\n", "-1\n+2:a\n\n"},
		{"a\nb\n", "a\nb", "=1\n-1\n+1:b\n"},
		{"a\nb", "a\nb\n", "=1\n-1\n+2:b\n\n"},
		{"a", "a\n\n", "-1\n+2:a\n\n+1:\n\n"},
		// two lists as long: what a has is dropped first
		{"a\n", "b\n", "-1\n+2:b\n\n"},
		{"a\nb\n", "c\nd\n", "-2\n+2:c\n\n+2:d\n\n"},
		{"a\nb\n", "b\na\n", "-1\n=1\n+2:a\n\n"},
		{"a\nb\nc\n", "c\nb\na\n", "-2\n=1\n+2:b\n\n+2:a\n\n"},
		{"a\nb\n", "c\nb\na\n", "-1\n+2:c\n\n=1\n+2:a\n\n"},
		// one list is longer: what b has is added first
		{"a\nb\nc\n", "c\na\nb\n", "+2:c\n\n=2\n-1\n"},
		{"a\nb\nc\n", "b\nc\na\n", "-1\n=2\n+2:a\n\n"},
		// what is alike is kept, though another one would do as well
		{"a\na\n", "a\n", "=1\n-1\n"},
		{"a\n", "a\na\n", "=1\n+2:a\n\n"},
		{"a\nb\na\n", "a\na\nb\n", "=1\n-1\n=1\n+2:b\n\n"},
		{"a\nx\n", "b\nx\nx\n", "-1\n+2:b\n\n=1\n+2:x\n\n"},
		{"a\nx\nx\n", "b\nx\n", "-2\n+2:b\n\n=1\n"},
		// bytes of all kinds
		{"é\n\xff\n", "\xff\né", "-1\n=1\n+2:é\n"},
		{"\x00\n", "\x00\x00\n", "-1\n+3:\x00\x00\n\n"},
		{"a\r\n", "a\n", "-1\n+2:a\n\n"},
	} {
		check(t, c.a, c.b, c.want)
	}
}

// TestLongRuns: numbers of one digit and of more.
func TestLongRuns(t *testing.T) {
	for _, n := range []int{1, 2, 9, 10, 11, 99, 100, 101, 1000, 12345} {
		a, b, k := strings.Repeat("a\n", n), strings.Repeat("b\n", n), strconv.Itoa(n)
		added := strings.Repeat("+2:b\n\n", n)
		check(t, a, a, "="+k+"\n")
		check(t, a, "", "-"+k+"\n")
		check(t, "", b, added)
		check(t, a, b, "-"+k+"\n"+added)
		check(t, a+b, b, "-"+k+"\n="+k+"\n")
		check(t, a+b, a, "="+k+"\n-"+k+"\n")
		check(t, b, a+b, strings.Repeat("+2:a\n\n", n)+"="+k+"\n")
		check(t, "x\n"+a+"y\n", "z\n"+a, "-1\n+2:z\n\n="+k+"\n-1\n")
		line := strings.Repeat("c", n)
		check(t, "", line, "+"+k+":"+line+"\n")
		check(t, "", line+"\n", "+"+strconv.Itoa(n+1)+":"+line+"\n\n")
	}
}

// TestLinesLikePieces: lines that hold what a piece is made of.
func TestLinesLikePieces(t *testing.T) {
	list := []string{"=1\n", "-1\n", "+1:x\n", "+2:x\n", "1:\n", ":\n", "+\n", "=\n", "-\n", "0\n", "10\n", "12:a:b\n", "#\n", "\n"}
	for _, line := range list {
		check(t, "", line, "+"+strconv.Itoa(len(line))+":"+line+"\n")
		check(t, line, line, "=1\n")
		check(t, "7\n"+line, line+"=7", "-1\n=1\n+2:=7\n")
		bare := strings.TrimSuffix(line, "\n")
		if bare != "" {
			check(t, line, bare, "-1\n+"+strconv.Itoa(len(bare))+":"+bare+"\n")
		}
	}
	a := strings.Join(list, "")
	d := diff.Of(a, "5"+a)
	check(t, a, "5"+a, "-1\n+4:5=1\n\n=13\n")
	check(t, d, a+d, diff.Of(d, a+d))
}

// TestApply: what is made of pieces, though Of would not tell it so.
func TestApply(t *testing.T) {
	for _, c := range []struct{ a, d, want string }{
		{"", "", ""},
		{"a\nb\nc\n", "=3\n", "a\nb\nc\n"},
		{"a\nb\nc\n", "-3\n", ""},
		{"a\nb\nc\n", "=1\n-1\n=1\n", "a\nc\n"},
		{"a\nb\nc\n", "-1\n=1\n-1\n", "b\n"},
		{"a\nb\nc\n", "-1\n+3:xy\n\n-1\n=1\n+1:z\n", "xy\nc\nz"},
		{"a\nb\n", "=1\n+2:x\n\n=1\n", "a\nx\nb\n"},
		{"a\nb\n", "-1\n+2:x\n\n-1\n", "x\n"},
		{"a\n", "-1\n+2:a\n\n", "a\n"},
		{"a\n", "+2:a\n\n-1\n", "a\n"},
		{"", "+1:\n\n", "\n"},
		// lines without a line feed, ahead of others
		{"a", "=1\n+1:b\n", "ab"},
		{"a\n", "+1:b\n=1\n", "ba\n"},
		{"", "+1:a\n+2:b\n\n", "ab\n"},
	} {
		applies(t, c.a, c.d, c.want)
	}
}

// TestNoPiece: each way in which a piece can be ill-made, at the beginning, in the middle and at the end of a diff.
func TestNoPiece(t *testing.T) {
	bad := []string{
		// a sign that is none, or is missing
		"x", "x1\n", "1\n", "2:ab\n", "*1\n", "==1\n", "=-1\n", "-+1\n", "=+1\n", " =1\n", "\n", "\n=1\n", "\x00", "\xff1\n", ":1\n", "0", "~1\n", "<1\n",
		// a number that is missing, 0, or with a needless zero
		"=\n", "-\n", "+:\n", "+:a\n", "=", "-", "+", "=0\n", "-0\n", "+0:\n", "+0:a\n", "=00\n", "=01\n", "-01\n", "+01:a\n", "-007\n",
		"=a\n", "-x1\n", "+a:b\n", "= 1\n", "- 1\n", "+ 1:a\n", "=1a\n", "-1 \n", "=1.0\n", "=1_0\n", "=0x1\n", "=/\n", "=:\n", "-9:\n", "+9/\n", "=٣\n",
		// too great
		"=99999999999999999999\n", "-99999999999999999999\n", "+99999999999999999999:a\n", "=9223372036854775807\n", "-9223372036854775808\n", "+9223372036854775807:a\n",
		"=18446744073709551617\n", "-18446744073709551617\n", "+18446744073709551617:a\n", "=4294967297\n", "-4294967297\n", "+4294967297:a\n", "+9223372036854775806:a\n",
		// not behind the number what stands there
		"=1:\n", "=1:a\n", "-1:a\n", "=1", "-1", "=1\r\n", "=1=1\n", "+1\n", "+1", "+1a\n", "+1;a\n", "+1::\n:", "+1 :a\n",
		// too long or too short for the number, empty, with a line feed within
		"+1:", "+1:a", "+1:\n", "+2:a\n", "+9:a\n", "+1:ab\n", "+2:abc\n", "+2:\n\n\n", "+3:a\nb\n", "+2:\na\n", "+2:\n\n\n", "+3:\n\n\n\n", "+4:a\n\n\n\n",
	}
	for _, piece := range bad {
		refuses(t, "", piece)
		refuses(t, "a\n", piece)
		refuses(t, "a\n", piece+"=1\n")
		refuses(t, "a\nb\n", piece+"-2\n")
		refuses(t, "a\nb\nc\n", "=1\n"+piece)
		refuses(t, "a\nb\n", "=2\n"+piece)
		refuses(t, "a\nb\n", "-2\n"+piece)
		refuses(t, "a\n", "=1\n+2:b\n\n"+piece)
		refuses(t, "a\nb\n", "=1\n+1:b\n"+piece+"-1\n")
		refuses(t, "a\nb\nc\n", "-1\n"+piece+"=1\n")
		refuses(t, "a\nb\n", "-1\n"+piece+"=1\n")
	}
}

// TestNoDigit: each byte that is no digit, in a number that would fit if it were one.
func TestNoDigit(t *testing.T) {
	for c := range 256 {
		if '0' <= c && c <= '9' {
			continue
		}
		n, digit := (c-'0'+256)%256, string([]byte{byte(c)})
		refuses(t, strings.Repeat("a\n", n), "="+digit+"\n")
		refuses(t, strings.Repeat("a\n", n), "-"+digit+"\n")
		refuses(t, strings.Repeat("a\n", 10+n), "=1"+digit+"\n")
		refuses(t, "", "+"+digit+":"+strings.Repeat("a", n)+"\n")
		refuses(t, "", "+1"+digit+":"+strings.Repeat("a", 10+n)+"\n")
	}
}

// TestSameKind: two runs of the same kind behind one another.
func TestSameKind(t *testing.T) {
	a := strings.Repeat("a\n", 12)
	for _, d := range []string{
		"=1\n=1\n", "-1\n-1\n", "=11\n=1\n", "-1\n-11\n", "=6\n=6\n=0\n",
		"=1\n=1\n-10\n", "-10\n=1\n=1\n", "=5\n-1\n-1\n=5\n", "+1:a\n=6\n=6\n", "+1:a\n-6\n-6\n", "=6\n=6\n+1:a\n",
	} {
		refuses(t, a, d)
	}
	refuses(t, "a\nb\n", "=1\n=1\n")
	refuses(t, "a\nb\n", "-1\n-1\n")
	refuses(t, "a\nb\nc\n", "-1\n=1\n=1\n")
	refuses(t, "a\nb\nc\n", "=1\n-1\n-1\n")
	applies(t, "a\nb\n", "=1\n-1\n", "a\n")
	applies(t, "a\nb\n", "=1\n+1:x\n=1\n", "a\nxb\n")
	applies(t, "a\nb\n", "-1\n+1:x\n-1\n", "x")
	applies(t, "a\nb\nc\nd\n", "=1\n-1\n=1\n-1\n", "a\nc\n")
}

// TestHowManyLines: more or fewer lines kept and dropped than there are.
func TestHowManyLines(t *testing.T) {
	for n := range 25 {
		a := strings.Repeat("a\n", n)
		for _, text := range []string{a, a + "b"} {
			count := len(diff.Lines(text))
			for k := 1; k < 40; k++ {
				d := strconv.Itoa(k) + "\n"
				if k == count {
					applies(t, text, "="+d, text)
					applies(t, text, "-"+d, "")
				} else {
					refuses(t, text, "="+d)
					refuses(t, text, "-"+d)
					refuses(t, text, "+1:x\n="+d)
					refuses(t, text, "-"+d+"+2:x\n\n")
				}
				if k+1 != count {
					refuses(t, text, "=1\n-"+d)
					refuses(t, text, "-1\n="+d)
					refuses(t, text, "="+d+"+1:x\n=1\n")
					refuses(t, text, "-"+d+"+1:x\n-1\n")
				}
			}
		}
	}
	refuses(t, "a", "")
	refuses(t, "\n", "")
	refuses(t, "a\n", "+2:a\n\n")
	refuses(t, "", "=1\n")
	refuses(t, "", "-1\n")
}

// words is all texts of up to n of these bytes.
func words(bytes string, n int) []string {
	all := []string{""}
	for first := 0; n > 0; n-- {
		last := len(all)
		for _, s := range all[first:last] {
			for k := range len(bytes) {
				all = append(all, s+bytes[k:k+1])
			}
		}
		first = last
	}
	return all
}

var pieces = regexp.MustCompile(`^(?:([=-])([1-9][0-9]*)|\+([1-9][0-9]*):((?s:.*)))$`)

// apply is chapter 7's Apply, slowly: d is cut at each of its line feeds that may end a piece.
func apply(a, d string) (string, bool) {
	lines := strings.SplitAfter(a, "\n")
	if lines[len(lines)-1] == "" {
		lines = lines[:len(lines)-1]
	}
	text, last := "", ""
	for len(d) > 0 {
		found := false
		for end := 0; end < len(d) && !found; end++ {
			m := pieces.FindStringSubmatch(d[:end])
			if d[end] != '\n' || m == nil {
				continue
			}
			if m[1] == "" {
				n, err := strconv.Atoi(m[3])
				body := strings.TrimSuffix(m[4], "\n")
				if err != nil || n != len(m[4]) || strings.Contains(body, "\n") {
					continue
				}
				text, last = text+m[4], ""
			} else {
				n, err := strconv.Atoi(m[2])
				if err != nil || n > len(lines) || m[1] == last {
					return "", false
				}
				if m[1] == "=" {
					text += strings.Join(lines[:n], "")
				}
				lines, last = lines[n:], m[1]
			}
			d, found = d[end+1:], true
		}
		if !found {
			return "", false
		}
	}
	return text, len(lines) == 0
}

// holdApply holds Apply against the slow one.
func holdApply(t *testing.T, a, d string) bool {
	t.Helper()
	want, ok := apply(a, d)
	if !ok {
		want = ""
	}
	got, e := diff.Apply(a, d)
	if got != want || (e == api.OK) != ok || !ok && e != api.ErrForm {
		t.Errorf("7.2: Apply(%q, %q): %q, %d; not %q, %v", a, d, got, e, want, ok)
	}
	return ok
}

// TestApplyOfAll: all short d, of three texts.
func TestApplyOfAll(t *testing.T) {
	good := 0
	for _, d := range words("=-+012:\na", 6) {
		if t.Failed() {
			return
		}
		for _, a := range []string{"", "a\n", "a\nb"} {
			if (a == "" || strings.ContainsAny(d[:min(1, len(d))], "=-+")) && holdApply(t, a, d) {
				good++
			}
		}
	}
	if good < 15 {
		t.Errorf("only %d of them are diffs", good)
	}
}

// TestApplyOfPieces: all lists of a few pieces, good ones and bad ones.
func TestApplyOfPieces(t *testing.T) {
	list := []string{"=1\n", "=2\n", "-1\n", "-2\n", "+1:x\n", "+2:y\n\n", "+1:\n\n", "=0\n", "+2:x\n", "\n"}
	all := []string{""}
	for range 4 {
		for _, d := range all[:len(all):len(all)] {
			for _, p := range list {
				all = append(all, d+p)
			}
		}
		slices.Sort(all)
		all = slices.Compact(all)
	}
	good := 0
	for _, d := range all {
		for _, a := range []string{"", "a\n", "a\nb", "a\nb\nc\n"} {
			if holdApply(t, a, d) {
				good++
			}
		}
	}
	if good < 300 {
		t.Errorf("only %d of them are diffs", good)
	}
}

// longest is chapter 7's L, of all i and j, by its words: the first line is in the list, or it is not.
func longest(a, b []string) [][]int {
	l := make([][]int, len(a)+1)
	for i := len(a); i >= 0; i-- {
		l[i] = make([]int, len(b)+1)
		for j := len(b) - 1; j >= 0 && i < len(a); j-- {
			l[i][j] = max(l[i+1][j], l[i][j+1])
			if a[i] == b[j] {
				l[i][j] = max(l[i][j], 1+l[i+1][j+1])
			}
		}
	}
	return l
}

// slow is chapter 7's Of, by its words: a list of what is done with each line, and then the runs of it.
func slow(a, b string) string {
	from, to := diff.Lines(a), diff.Lines(b)
	l := longest(from, to)
	signs, i, j := "", 0, 0
	var added []string
	for i < len(from) || j < len(to) {
		switch {
		case i < len(from) && j < len(to) && from[i] == to[j]:
			signs, i, j = signs+"=", i+1, j+1
		case j == len(to) || i < len(from) && l[i+1][j] >= l[i][j+1]:
			signs, i = signs+"-", i+1
		default:
			signs, j, added = signs+"+", j+1, append(added, to[j])
		}
	}
	out := ""
	for _, run := range regexp.MustCompile(`=+|-+|\+`).FindAllString(signs, -1) {
		if run == "+" {
			out += fmt.Sprintf("+%d:%s\n", len(added[0]), added[0])
			added = added[1:]
		} else {
			out += fmt.Sprintf("%c%d\n", run[0], len(run))
		}
	}
	return out
}

// holdOf holds Of against the slow one, and Apply of it against b.
func holdOf(t *testing.T, a, b string) {
	t.Helper()
	want := slow(a, b)
	if d := diff.Of(a, b); d != want {
		t.Errorf("7.1: Of(%.300q, %.300q): %.300q, not %.300q", a, b, d, want)
	} else if got, e := diff.Apply(a, d); got != b || e != api.OK {
		t.Errorf("7.3: Apply(%.300q, %.300q): %.300q, %d, not %.300q", a, d, got, e, b)
	}
}

// kept is how many lines d keeps; it is one that Of told, of texts whose lines hold no '='.
func kept(d string) int {
	n := 0
	for _, m := range regexp.MustCompile(`=([0-9]+)`).FindAllStringSubmatch(d, -1) {
		k, _ := strconv.Atoi(m[1])
		n += k
	}
	return n
}

// within tells if list can be had, in order, from all.
func within(list, all []string) bool {
	for _, line := range all {
		if len(list) > 0 && list[0] == line {
			list = list[1:]
		}
	}
	return len(list) == 0
}

// most is how many lines can be kept, by trying each list of a's lines.
func most(a, b []string) int {
	best := 0
	for set := range 1 << len(a) {
		var list []string
		for i, line := range a {
			if set>>i&1 == 1 {
				list = append(list, line)
			}
		}
		if len(list) > best && within(list, b) {
			best = len(list)
		}
	}
	return best
}

// TestOfAll: all pairs of short texts of a few lines.
func TestOfAll(t *testing.T) {
	var all []string
	for _, s := range words("abc", 4) {
		var text strings.Builder
		for k := range len(s) {
			text.WriteString(s[k:k+1] + "\n")
		}
		all = append(all, text.String())
		if s != "" && len(s) < 4 {
			all = append(all, strings.TrimSuffix(text.String(), "\n"))
		}
	}
	all = append(all, "\n", "\n\n", "a\n\n", "\na")
	for _, a := range all {
		for _, b := range all {
			if t.Failed() {
				return
			}
			holdOf(t, a, b)
			if n, want := kept(diff.Of(a, b)), most(diff.Lines(a), diff.Lines(b)); n != want {
				t.Errorf("7.3: Of(%q, %q) keeps %d lines, not %d", a, b, n, want)
			}
		}
	}
}

// drawn is a text of n lines, of so many kinds; the last one may have no line feed.
func drawn(r *rand.Rand, n, kinds int) string {
	var text strings.Builder
	for range n {
		text.WriteString(strconv.Itoa(r.Intn(kinds)))
		text.WriteString([]string{"\n", "\n", ":\n", "+1:a\n"}[r.Intn(4)])
	}
	if r.Intn(3) == 0 {
		return strings.TrimSuffix(text.String(), "\n")
	}
	return text.String()
}

// bent is s, with some of its lines dropped, put twice, swapped, or others put in.
func bent(r *rand.Rand, s string, times int) string {
	list := diff.Lines(s)
	for range times {
		k := r.Intn(len(list) + 1)
		switch {
		case k == len(list) || r.Intn(3) == 0:
			list = slices.Insert(list, k, "new\n")
		case r.Intn(3) == 0:
			list = slices.Insert(list, k, list[k])
		case r.Intn(2) == 0:
			list = slices.Delete(list, k, k+1)
		default:
			n := r.Intn(len(list))
			list[k], list[n] = list[n], list[k]
		}
	}
	return strings.Join(list, "")
}

// TestOfDrawn: many pairs of texts, small ones and such as have more lines than a word has bits.
func TestOfDrawn(t *testing.T) {
	r := rand.New(rand.NewSource(7))
	for k := range 3000 {
		if t.Failed() {
			return
		}
		n := 20
		if k%10 == 0 {
			n = 300
		}
		a := drawn(r, r.Intn(n), 1+r.Intn(n))
		holdOf(t, a, drawn(r, r.Intn(n), 1+r.Intn(n)))
		b := bent(r, a, r.Intn(12))
		holdOf(t, a, b)
		holdOf(t, b, a)
		holdOf(t, a, a)
	}
}

// TestOfSizes: as many lines as a word has bits, and as a square has, one less and one more.
func TestOfSizes(t *testing.T) {
	r := rand.New(rand.NewSource(8))
	sizes := []int{0, 1, 2, 3, 4, 5, 8, 9, 10, 63, 64, 65, 127, 128, 129, 143, 144, 145, 192, 255, 256, 257}
	for _, n := range sizes {
		for _, m := range sizes {
			for _, kinds := range []int{1, 2, 5, 100} {
				if t.Failed() {
					return
				}
				holdOf(t, drawn(r, n, kinds), drawn(r, m, kinds))
				holdOf(t, "first\n"+drawn(r, n, kinds), drawn(r, m, kinds)+"last\n")
			}
		}
	}
}

// rising is how long the longest rising list is that can be had, in order, from list.
func rising(list []int) int {
	var ends []int
	for _, n := range list {
		if k, _ := slices.BinarySearch(ends, n); k < len(ends) {
			ends[k] = n
		} else {
			ends = append(ends, n)
		}
	}
	return len(ends)
}

// TestMostKept: a's lines all differ, and b is the same ones in another order: what can be kept is a longest rising list.
func TestMostKept(t *testing.T) {
	r := rand.New(rand.NewSource(9))
	for range 200 {
		n := 1 + r.Intn(400)
		a, b := "", ""
		order := r.Perm(n)
		for k := range n {
			a += strconv.Itoa(k) + "\n"
			b += strconv.Itoa(order[k]) + "\n"
		}
		if got, want := kept(diff.Of(a, b)), rising(order); got != want {
			t.Fatalf("7.3: Of keeps %d lines of %d, not %d", got, n, want)
		}
		holdOf(t, a, b)
	}
}

// TestApplyBent: diffs with a byte put in, dropped or turned at each place.
func TestApplyBent(t *testing.T) {
	r := rand.New(rand.NewSource(10))
	good, bad := 0, 0
	for range 300 {
		if t.Failed() {
			return
		}
		a := drawn(r, r.Intn(14), 4)
		d := diff.Of(a, bent(r, a, r.Intn(6)))
		for k := range len(d) + 1 {
			c := string("=-+0123456789:\na\x00"[r.Intn(17)])
			for _, s := range []string{d[:k] + c + d[k:], d[:k], d[k:], d[:k] + d[min(k+1, len(d)):], d[:k] + c + d[min(k+1, len(d)):]} {
				if holdApply(t, a, s) {
					good++
				} else {
					bad++
				}
			}
		}
	}
	if good < 100 || bad < 1000 {
		t.Errorf("only %d of them are diffs, and %d none", good, bad)
	}
}

// TestApplyDrawn: any bytes.
func TestApplyDrawn(t *testing.T) {
	r := rand.New(rand.NewSource(11))
	for range 20000 {
		d := make([]byte, r.Intn(30))
		for k := range d {
			d[k] = byte(r.Intn(256))
			if r.Intn(3) > 0 {
				d[k] = "=-+1:\n"[r.Intn(6)]
			}
		}
		holdApply(t, drawn(r, r.Intn(3), 4), string(d))
	}
}

// TestLongTexts: R1: texts of very many lines, of which no table of numbers could be held.
func TestLongTexts(t *testing.T) {
	const n = 60000
	a, b := strings.Repeat("a\n", n), strings.Repeat("b\n", n)
	k := strconv.Itoa(n)
	check(t, a, b, "-"+k+"\n"+strings.Repeat("+2:b\n\n", n))
	check(t, "x\n"+a, a+"x\n", "-1\n="+k+"\n+2:x\n\n")
	check(t, a+"x\n", "x\n"+a, "+2:x\n\n="+k+"\n-1\n")
	check(t, a+a+a+a, a+a+a+a+"x", "="+strconv.Itoa(4*n)+"\n+1:x\n")
	check(t, strings.Repeat("a\nb\n", n/2), strings.Repeat("c\na\n", n/2), "+2:c\n\n=1\n"+strings.Repeat("-1\n+2:c\n\n=1\n", n/2-1)+"-1\n")
	applies(t, a, strings.Repeat("+1:x\n", n)+"="+k+"\n", strings.Repeat("x", n)+a)
	line := strings.Repeat("c", 1<<20)
	check(t, line, line+"\n", fmt.Sprintf("-1\n+%d:%s\n\n", 1<<20+1, line))
	refuses(t, "", strings.Repeat("9", 1<<20))
	refuses(t, "a", "="+strings.Repeat("0", 1<<20)+"1\n")
	refuses(t, "a", "="+strings.Repeat("1", 1<<20)+"\n")
}

// TestMemory: R2: a list that was told is its own memory, its spare room too.
func TestMemory(t *testing.T) {
	s := strings.Repeat("a\nb\n", 50) + "c"
	list, other := diff.Lines(s), diff.Lines(s)
	before := slices.Clone(other)
	list = list[:cap(list)]
	for k := range list {
		list[k] = "x"
	}
	if !slices.Equal(other, before) || !slices.Equal(diff.Lines(s), before) {
		t.Error("R2: two answers share memory")
	}
}

// TestSame: R4: the same again, whatever was asked in between.
func TestSame(t *testing.T) {
	r := rand.New(rand.NewSource(12))
	for range 200 {
		a, b := drawn(r, r.Intn(40), 9), drawn(r, r.Intn(40), 9)
		d := diff.Of(a, b)
		diff.Of(b, a)
		diff.Apply(b, d)
		if again := diff.Of(strings.Clone(a), strings.Clone(b)); again != d {
			t.Fatalf("R4: Of(%q, %q): %q, then %q", a, b, d, again)
		}
	}
}
