// Package place: where something stands: see DOC.md, chapter 1.
package place

import (
	"math"
	"strconv"
	"strings"
)

// first is where every text begins, the empty one too.
const first = 1 + 1i

// most is the greatest line or column that is told: a text of 2^31 - 1 bytes
// has none above it.
const most = 1 << 31

// Of is the place of byte at of s, or of its end.
func Of(s string, at int) complex128 {
	at = min(max(at, 0), len(s))
	ahead := s[:at]
	line := 1 + strings.Count(ahead, "\n")
	// Without a line feed ahead the index is -1, as if one stood ahead of s.
	column := at - strings.LastIndexByte(ahead, '\n')
	return complex(float64(line), float64(column))
}

// Back is the at whose place in s is p.
//
// It goes by whole places and holds p against each, so that parts that are
// broken, infinite or no number need no care: they equal none.
func Back(s string, p complex128) (int, bool) {
	var here complex128 = first
	for at := range len(s) {
		if here == p {
			return at, true
		}
		here = next(here, s[at])
	}
	if here == p {
		return len(s), true
	}
	return 0, false
}

// next is the place behind that of byte b at p. A line feed belongs to the
// line that it ends.
func next(p complex128, b byte) complex128 {
	if b == '\n' {
		return complex(real(p)+1, 1)
	}
	return p + 1i
}

// Print is p as line:column.
func Print(p complex128) string {
	return strconv.FormatInt(whole(real(p)), 10) + ":" + strconv.FormatInt(whole(imag(p)), 10)
}

// whole brings x within bounds ahead of turning it into an integer: what Go
// makes of a float that no integer can hold hangs on the machine.
func whole(x float64) int64 {
	if math.IsNaN(x) {
		return 0
	}
	return int64(min(max(x, 0), most))
}

// Less tells if a stands ahead of b. Columns count only where the lines are
// the same; what is no number is neither the same as, nor less than, another.
func Less(a, b complex128) bool {
	if real(a) == real(b) {
		return imag(a) < imag(b)
	}
	return real(a) < real(b)
}
