package vec

import (
	"strconv"
	"strings"

	"levee/api"
)

// Text: the numbers in decimal, a point between each two.
func Text(v api.Vector) string {
	var out strings.Builder
	for i, n := range v {
		if i > 0 {
			out.WriteByte('.')
		}
		out.WriteString(strconv.FormatUint(n, 10))
	}
	return out.String()
}

// Read: the vector of which s is Text.
func Read(s string) (api.Vector, api.Errno) {
	var v api.Vector
	for i := range v {
		word, rest, point := strings.Cut(s, ".")
		n, ok := readNumber(word)
		last := i == len(v)-1
		if !ok || point == last { // a point stands behind each number but the last
			return api.Vector{}, api.ErrBytes
		}
		v[i], s = n, rest
	}
	return v, api.OK
}

// readNumber: the number of a word as Text writes it.
func readNumber(word string) (uint64, bool) {
	// Without noughts ahead more than 20 digits are beyond 2^64 - 1, so nobody counts them.
	if len(word) > 1 && word[0] == '0' {
		return 0, false
	}
	n, err := strconv.ParseUint(word, 10, 64)
	if err != nil { // at 2^64 and above it would tell a number beside the error
		return 0, false
	}
	return n, true
}
