package vote_test

import (
	"fmt"
	"slices"
	"strings"
	"testing"

	"levee/api"
)

// P16.1: what is chosen, and by which votes.
func TestChosen(t *testing.T) {
	three := setOf(0, 1, 2)
	for _, k := range []struct {
		name   string
		set    [8]bool
		votes  []api.Vote
		want   string
		wantOK bool
	}{
		{"no votes", three, nil, "", false},
		{"no votes, nobody", setOf(), nil, "", false},
		{"nobody", setOf(), votes(said(0, 9, "x"), said(1, 9, "x"), said(2, 9, "x")), "", false},
		{"one of one", setOf(5), votes(said(5, 9, "x")), "x", true},
		{"half of two", setOf(1, 5), votes(said(5, 9, "x")), "", false},
		{"two of two", setOf(1, 5), votes(said(5, 9, "x"), said(1, 9, "x")), "x", true},
		{"one of three", three, votes(said(1, 9, "x")), "", false},
		{"two of three", three, votes(said(1, 9, "x"), said(2, 9, "x")), "x", true},
		{"three of three", three, votes(said(1, 9, "x"), said(2, 9, "x"), said(0, 9, "x")), "x", true},
		{"half of four", setOf(0, 1, 2, 3), votes(said(1, 9, "x"), said(2, 9, "x")), "", false},
		{"one more than half of four", setOf(0, 1, 2, 3), votes(said(1, 9, "x"), said(2, 9, "x"), said(3, 9, "x")), "x", true},
		{"a Value of no byte", three, votes(said(1, 9, ""), said(2, 9, "")), "", true},

		{"one Ballot, unlike Values", three, votes(said(0, 9, "x"), said(1, 9, "y"), said(2, 9, "z")), "", false},
		{"one Ballot, Values nearly alike", three, votes(said(0, 9, "x"), said(1, 9, "x\x00"), said(2, 9, "X"), said(2, 9, "")), "", false},
		{"unlike Ballots, one Value", three, votes(said(0, 9, "x"), said(1, 8, "x"), said(2, 10, "x")), "", false},
		{"Ballots nearly alike, one Value", three, votes(said(0, 1, "x"), said(1, 1+1<<32, "x"), said(2, 1+1<<63, "x")), "", false},
		{"unlike Ballots, one Value, no majority by one", setOf(0, 1, 2, 3), votes(said(0, 9, "x"), said(1, 9, "x"), said(2, 8, "x"), said(3, 8, "x")), "", false},
		{"At isn't asked", three, votes(promised(0, 9, 1, "x"), promised(1, 9, 7, "x")), "x", true},
		{"Ballot 0", three, votes(said(0, 0, "x"), said(1, 0, "x")), "x", true},
		{"the greatest Ballot", three, votes(said(0, top, "x"), said(1, top, "x")), "x", true},

		{"one member several times", three, votes(said(0, 9, "x"), said(0, 9, "x"), said(0, 9, "x")), "", false},
		{"one member's unlike Values", three, votes(said(0, 9, "x"), said(0, 9, "y"), said(1, 9, "y")), "y", true},
		{"who isn't of the set", three, votes(said(3, 9, "x"), said(4, 9, "x"), said(7, 9, "x")), "", false},
		{"one of the set, and others", three, votes(said(3, 9, "x"), said(0, 9, "x"), said(7, 9, "x")), "", false},
		{"who isn't of the set, as the first of them", three, votes(said(3, 9, "x"), said(0, 9, "x"), said(1, 9, "x")), "x", true},

		{"the first vote has no majority", three, votes(said(0, 8, "y"), said(0, 9, "x"), said(1, 9, "x")), "x", true},
		{"two Values", three, votes(said(0, 8, "x"), said(1, 8, "x"), said(1, 9, "y"), said(2, 9, "y")), "x", true},
		{"two Values, the greater Ballot first", three, votes(said(0, 9, "y"), said(1, 9, "y"), said(1, 8, "x"), said(2, 8, "x")), "y", true},
		{"two Values, the one's first vote first, its majority last", three, votes(said(0, 8, "x"), said(0, 9, "y"), said(1, 9, "y"), said(2, 9, "y"), said(1, 8, "x")), "x", true},
		{"two Values of one Ballot", three, votes(said(0, 9, "y"), said(0, 9, "x"), said(1, 9, "x"), said(1, 9, "y")), "y", true},
		{"two Values, of one the first vote is by who isn't of the set", three, votes(said(7, 8, "x"), said(0, 9, "y"), said(1, 9, "y"), said(0, 8, "x"), said(1, 8, "x")), "x", true},
		{"two Values, of one the first vote is by no member", three, votes(said(-1, 8, "x"), said(0, 9, "y"), said(1, 9, "y"), said(0, 8, "x"), said(1, 8, "x")), "x", true},
		{"a Value with another Ballot first", three, votes(said(0, 7, "x"), said(0, 9, "y"), said(1, 9, "y"), said(0, 8, "x"), said(1, 8, "x")), "y", true},
		{"one of no byte first", three, votes(said(0, 8, ""), said(0, 9, "y"), said(1, 9, "y"), said(1, 8, "")), "", true},
	} {
		chooses(t, k.name, k.set, k.votes, k.want, k.wantOK)
	}
}

// P16.1: numbers that are no member have no vote.
func TestChosenStrangers(t *testing.T) {
	for _, s := range strangers {
		chooses(t, "a stranger of one", setOf(0), votes(said(s, 9, "x")), "", false)
		chooses(t, "half and a stranger", setOf(0, 1), votes(said(s, 9, "x"), said(1, 9, "x")), "", false)
		chooses(t, "a majority behind a stranger", setOf(0, 1), votes(said(s, 9, "x"), said(0, 9, "x"), said(1, 9, "x")), "x", true)
		chooses(t, "strangers are nobody", setOf(), votes(said(s, 9, "x"), said(s, 9, "x")), "", false)
	}
}

// P16.1: each set and each crowd of voters; some others vote for something else ahead of them.
func TestEachChosen(t *testing.T) {
	for s := range 256 {
		set := setOf(marked(s)...)
		for f := range 256 {
			var l, ahead []api.Vote
			for _, m := range marked(f) {
				l = append(l, said(m, 9, "x"), said(m, 9, "x"))
				ahead = append(ahead, said(m, uint64(m), "x"), said(m, 9, string(rune('a'+m))))
			}
			ok := 2*len(marked(s&f)) > len(marked(s))
			want := ""
			if ok {
				want = "x"
			}
			chooses(t, "alone", set, l, want, ok)
			if len(marked(s)) > 1 {
				chooses(t, "behind others", set, append(ahead, l...), want, ok)
			}
		}
	}
}

// P1: very many votes are told soon, unlike ones and alike ones.
func TestManyVotes(t *testing.T) {
	const many = 1 << 18
	unlike, alike, long := make([]api.Vote, many), make([]api.Vote, many), make([]api.Vote, 1<<9)
	for i := range many {
		unlike[i] = said(i%8, 9, fmt.Sprint(i))
		alike[i] = promised(i%4, 9, uint64(i/2), "x")
	}
	text := strings.Repeat("a", 1<<20)
	for i := range long {
		long[i] = said(i%4, uint64(i), text)
	}
	eight := setOf(0, 1, 2, 3, 4, 5, 6, 7)
	for _, l := range [][]api.Vote{unlike, alike, long} {
		chooses(t, "many", eight, l, "", false)
		last := slices.Concat(l, votes(said(0, 1, "z"), said(1, 1, "z"), said(2, 1, "z"), said(3, 1, "z"), said(4, 1, "z")))
		chooses(t, "many, and a majority behind them", eight, last, "z", true)
	}
	picks(t, "many", eight, 9, alike, "own", "", false)
	picks(t, "many, and one more", eight, 9, append(alike, said(7, 9, "y")), "own", "x", true)
	counts(t, "many", eight, voters(alike), false)
	counts(t, "many, and one more", eight, append(voters(alike), 7), true)
}
