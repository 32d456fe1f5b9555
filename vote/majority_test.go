package vote_test

import (
	"slices"
	"testing"
)

// P16.1: half isn't enough, one more is.
func TestMajority(t *testing.T) {
	three, four, eight := setOf(0, 1, 2), setOf(1, 3, 5, 7), setOf(0, 1, 2, 3, 4, 5, 6, 7)
	counts(t, "the chapter's example", three, []int{0, 0}, false)
	counts(t, "the chapter's example", three, []int{0, 2}, true)
	for _, k := range []struct {
		name string
		set  [8]bool
		from []int
		want bool
	}{
		{"nobody, an empty list", setOf(), nil, false},
		{"nobody, a list", setOf(), []int{0, 1, 2, 3, 4, 5, 6, 7}, false},
		{"one, an empty list", setOf(4), []int{}, false},
		{"one", setOf(4), []int{4}, true},
		{"one, another", setOf(4), []int{3, 5, 0}, false},
		{"two, half", setOf(0, 7), []int{7}, false},
		{"two, half twice", setOf(0, 7), []int{7, 7, 7}, false},
		{"two", setOf(0, 7), []int{7, 0}, true},
		{"three, one", three, []int{1}, false},
		{"three, all", three, []int{2, 1, 0}, true},
		{"three, one and another", three, []int{1, 3, 4, 5, 6, 7}, false},
		{"four, half", four, []int{1, 7}, false},
		{"four, half and the others", four, []int{1, 7, 0, 2, 4, 6}, false},
		{"four, one more", four, []int{7, 1, 5}, true},
		{"four, half of them several times", four, []int{1, 7, 1, 7, 1, 1}, false},
		{"eight, half", eight, []int{4, 5, 6, 7}, false},
		{"eight, one more", eight, []int{0, 4, 5, 6, 7}, true},
		{"eight, one several times", eight, []int{3, 3, 3, 3, 3, 3, 3, 3, 3}, false},
		{"eight, half and a stranger", eight, []int{8, 4, 5, 6, 7}, false},
		{"five, half rounded down", setOf(0, 1, 2, 3, 4), []int{0, 1}, false},
		{"five, half rounded up", setOf(0, 1, 2, 3, 4), []int{0, 1, 2}, true},
		{"strangers alone", eight, strangers, false},
		{"a majority between strangers", three, append(append([]int{0}, strangers...), 1), true},
		{"less than that between strangers", three, append(append([]int{0}, strangers...), 0, 5), false},
	} {
		counts(t, k.name, k.set, k.from, k.want)
	}
}

// P16.1: each set, each list that names each member no more than once; the same the other way round, with each twice, with strangers.
func TestEachMajority(t *testing.T) {
	for s := range 256 {
		set := setOf(marked(s)...)
		for f := range 256 {
			from := marked(f)
			among := len(marked(s & f))
			want := 2*among > len(marked(s))
			counts(t, "once", set, from, want)
			counts(t, "twice", set, append(from, from...), want)
			from = append(slices.Clone(strangers), from...)
			slices.Reverse(from)
			counts(t, "with strangers", set, from, want)
		}
	}
}
