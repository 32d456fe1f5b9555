package vote_test

import (
	"slices"
	"testing"

	"levee/api"
)

// P16.1: what is picked, and by which votes.
func TestPick(t *testing.T) {
	three := setOf(0, 1, 2)
	for _, k := range []struct {
		name   string
		set    [8]bool
		votes  []api.Vote
		own    string
		want   string
		wantOK bool
	}{
		{"no votes", three, nil, "own", "", false},
		{"no votes, nobody", setOf(), nil, "own", "", false},
		{"nobody", setOf(), votes(promised(0, 9, 3, "x"), promised(1, 9, 0, "")), "own", "", false},
		{"one of one", setOf(5), votes(promised(5, 9, 0, "")), "own", "own", true},
		{"one of one, that accepted", setOf(5), votes(promised(5, 9, 3, "x")), "own", "x", true},
		{"half of two", setOf(1, 5), votes(promised(5, 9, 3, "x")), "own", "", false},
		{"one of three", three, votes(promised(1, 9, 3, "x")), "own", "", false},
		{"half of four", setOf(0, 1, 2, 3), votes(promised(1, 9, 3, "x"), promised(3, 9, 0, "")), "own", "", false},
		{"one more than half of four", setOf(0, 1, 2, 3), votes(promised(1, 9, 3, "x"), promised(3, 9, 0, ""), promised(0, 9, 0, "")), "own", "x", true},
		{"every At 0", three, votes(promised(2, 9, 0, "a"), promised(0, 9, 0, "b")), "own", "own", true},
		{"every At 0 of all", three, votes(promised(2, 9, 0, "a"), promised(0, 9, 0, "b"), promised(1, 9, 0, "c")), "own", "own", true},
		{"one At above 0, first", three, votes(promised(2, 9, 1, "a"), promised(0, 9, 0, "b")), "own", "a", true},
		{"one At above 0, last", three, votes(promised(2, 9, 0, "a"), promised(0, 9, 1, "b")), "own", "b", true},
		{"the greatest At first", three, votes(promised(2, 9, 8, "a"), promised(0, 9, 7, "b"), promised(1, 9, 0, "c")), "own", "a", true},
		{"the greatest At between", three, votes(promised(2, 9, 6, "a"), promised(0, 9, 7, "b"), promised(1, 9, 5, "c")), "own", "b", true},
		{"the greatest At last", three, votes(promised(2, 9, 6, "a"), promised(0, 9, 7, "b"), promised(1, 9, 8, "c")), "own", "c", true},
		{"the greatest At twice", three, votes(promised(2, 9, 6, "a"), promised(1, 9, 7, "b"), promised(0, 9, 7, "c")), "own", "b", true},
		{"the greatest At three times", three, votes(promised(2, 9, 7, "c"), promised(1, 9, 7, "b"), promised(0, 9, 7, "a")), "own", "c", true},
		{"At as great as the Ballot, and above", three, votes(promised(2, 9, 9, "a"), promised(1, 9, 10, "b")), "own", "b", true},
		{"the greatest number as At", three, votes(promised(2, 9, top, "a"), promised(1, 9, top-1, "b")), "own", "a", true},
		{"At has no sign", three, votes(promised(2, 9, 1, "a"), promised(1, 9, 1<<63, "b")), "own", "b", true},
		{"At has all its bits", three, votes(promised(2, 9, 1<<32, "a"), promised(1, 9, 1, "b")), "own", "a", true},
		{"own of no byte", three, votes(promised(2, 9, 0, "a"), promised(0, 9, 0, "b")), "", "", true},
		{"a Value of no byte", three, votes(promised(2, 9, 4, ""), promised(0, 9, 3, "b")), "own", "", true},
		{"own, with At 0 behind a text", three, votes(promised(2, 9, 0, "own too"), promised(0, 9, 0, "")), "own", "own", true},

		{"another Ballot alone", three, votes(promised(0, 8, 3, "x"), promised(1, 8, 0, ""), promised(2, 10, 3, "y")), "own", "", false},
		{"another Ballot's make no majority", three, votes(promised(0, 9, 3, "x"), promised(1, 8, 0, ""), promised(2, 10, 3, "y")), "own", "", false},
		{"another Ballot's between", three, votes(promised(0, 8, 5, "x"), promised(1, 9, 2, "b"), promised(2, 10, 6, "y"), promised(0, 9, 1, "a"), promised(0, 1<<32+9, 7, "z")), "own", "b", true},
		{"another Ballot's greater At", three, votes(promised(0, 9, 0, ""), promised(1, 9, 0, ""), promised(2, 8, 7, "y")), "own", "own", true},
		{"an older vote of who has one of this Ballot", three, votes(promised(0, 8, 7, "x"), promised(0, 9, 0, ""), promised(1, 9, 0, "")), "own", "own", true},

		{"one who isn't of the set makes no majority", three, votes(promised(0, 9, 0, ""), promised(3, 9, 0, ""), promised(7, 9, 4, "x")), "own", "", false},
		{"one who isn't of the set with a greater At", three, votes(promised(3, 9, 8, "x"), promised(0, 9, 1, "a"), promised(2, 9, 2, "b"), promised(7, 9, 9, "y")), "own", "b", true},
		{"own, whatever one who isn't of the set accepted", three, votes(promised(3, 9, 8, "x"), promised(0, 9, 0, ""), promised(2, 9, 0, "")), "own", "own", true},
		{"one member several times", three, votes(promised(0, 9, 3, "x"), promised(0, 9, 3, "x"), promised(0, 9, 4, "y")), "own", "", false},
		{"one member's unlike Ats, the greater one last", three, votes(promised(0, 9, 3, "x"), promised(1, 9, 4, "a"), promised(0, 9, 5, "y")), "own", "y", true},
		{"one member's unlike Ats, the greater one first", three, votes(promised(0, 9, 5, "y"), promised(1, 9, 4, "a"), promised(0, 9, 3, "x")), "own", "y", true},
		{"one member's unlike Ats, one of them 0", three, votes(promised(0, 9, 0, "x"), promised(1, 9, 0, ""), promised(0, 9, 1, "y")), "own", "y", true},
		{"one member's unlike Values", three, votes(promised(0, 9, 5, "y"), promised(0, 9, 5, "x"), promised(1, 9, 0, "")), "own", "y", true},
	} {
		picks(t, k.name, k.set, 9, k.votes, k.own, k.want, k.wantOK)
	}
}

// P16.1: numbers that are no member have no vote, not even one of a great At.
func TestPickStrangers(t *testing.T) {
	eight := setOf(0, 1, 2, 3, 4, 5, 6, 7)
	for _, s := range strangers {
		picks(t, "a stranger of one", setOf(0), 9, votes(promised(s, 9, 3, "x")), "own", "", false)
		picks(t, "half and a stranger", setOf(0, 1), 9, votes(promised(s, 9, 3, "x"), promised(1, 9, 2, "a")), "own", "", false)
		picks(t, "a majority and a stranger", setOf(0, 1), 9, votes(promised(0, 9, 0, ""), promised(s, 9, 3, "x"), promised(1, 9, 2, "a")), "own", "a", true)
		picks(t, "own and a stranger", eight, 9, votes(promised(s, 9, 3, "x"), promised(3, 9, 0, ""), promised(4, 9, 0, ""), promised(5, 9, 0, ""), promised(6, 9, 0, ""), promised(7, 9, 0, "")), "own", "own", true)
	}
}

// P16.1: any number may be the ballot, 0 too.
func TestPickBallots(t *testing.T) {
	for _, n := range []uint64{0, 1, 8, 9, 1 << 32, 1<<63 - 1, 1 << 63, top} {
		of := votes(promised(0, n, 2, "a"), promised(1, n, 1, "b"))
		picks(t, "its own", setOf(0, 1, 2), n, of, "own", "a", true)
		for _, other := range []uint64{n + 1, n - 1, n + 1<<32, n ^ 1<<63} {
			picks(t, "another's", setOf(0, 1, 2), other, of, "own", "", false)
		}
	}
}

// P16.1: each set and each crowd of voters, of which one after the other has the greatest At.
func TestEachPick(t *testing.T) {
	for s := range 256 {
		set := setOf(marked(s)...)
		for f := range 256 {
			var l []api.Vote
			greatest := "own"
			for _, m := range marked(f) {
				l = append(l, promised(m, 9, uint64(m), string(rune('a'+m)))) // member 0 accepted nothing
				if set[m] && m > 0 {
					greatest = string(rune('a' + m))
				}
			}
			ok := 2*len(marked(s&f)) > len(marked(s))
			if !ok {
				greatest = ""
			}
			picks(t, "rising", set, 9, l, "own", greatest, ok)
			slices.Reverse(l)
			picks(t, "falling", set, 9, l, "own", greatest, ok)
		}
	}
}
