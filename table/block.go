package table

import (
	"sort"

	"levee/api"
	"levee/code"
)

// A block has blockPairs pairs, the last one may have fewer; the end of a table has endLen bytes.
const (
	blockPairs = 8
	endLen     = 8
)

// rising: is each key greater than the one ahead?
func rising(pairs []api.Pair) bool {
	for i := 1; i < len(pairs); i++ {
		if pairs[i-1].Key >= pairs[i].Key {
			return false
		}
	}
	return true
}

// flat: key, value, key, value ..
func flat(pairs []api.Pair) []string {
	fields := make([]string, 0, 2*len(pairs))
	for _, p := range pairs {
		fields = append(fields, p.Key, p.Value)
	}
	return fields
}

// packed: the frame of Pack of the fields.
func packed(fields []string) (string, api.Errno) {
	body, err := code.Pack(fields)
	if err != api.OK {
		return "", err
	}
	return code.Frame(body)
}

// inBlocks: the pairs in all frames of s but the last one, which is the index, if they can be read.
func inBlocks(s string) ([]api.Pair, bool) {
	// Build never makes more than MaxBytes, so longer bytes needn't be looked at.
	if len(s) < endLen || len(s) > api.MaxBytes {
		return nil, false
	}
	bodies, _ := code.Scan(s[:len(s)-endLen])
	if len(bodies) == 0 {
		return nil, false
	}
	var pairs []api.Pair
	for _, body := range bodies[:len(bodies)-1] {
		fields, err := code.Unpack(body)
		if err != api.OK || len(fields)%2 != 0 {
			return nil, false
		}
		for i := 0; i < len(fields); i += 2 {
			pairs = append(pairs, api.Pair{Key: fields[i], Value: fields[i+1]})
		}
	}
	return pairs, true
}

// place: the place of the first pair whose key isn't below this one.
func place(pairs []api.Pair, key string) int {
	return sort.Search(len(pairs), func(i int) bool { return pairs[i].Key >= key })
}
