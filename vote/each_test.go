package vote_test

import "testing"

// P16.2: all short plays of a few members: no two values are ever chosen, by all the acceptances that were ever told.
func TestEachPlay(t *testing.T) {
	two, three := []uint64{11, 12}, []uint64{8, 9, 16}
	for _, k := range []struct {
		name string
		play play
		want tale // at least so many
	}{
		{"one member", play{1, setOf(0), two, []string{"a", ""}}, tale{10, 5, 1, 1, 0}},
		{"two members", play{2, setOf(0, 1), two, []string{"a", ""}}, tale{50, 10, 5, 1, 0}},
		{"two members and another one", play{3, setOf(0, 1), two, []string{"", "b"}}, tale{500, 100, 50, 10, 20}},
		{"three members", play{3, setOf(0, 1, 2), two, []string{"a", "b"}}, tale{1500, 1000, 500, 200, 100}},
		{"three members, another one, one that never answers", play{4, setOf(0, 2, 3, 7), two, []string{"a", "b"}}, tale{2000, 300, 200, 10, 50}},
		{"four members", play{4, setOf(0, 1, 2, 3), two, []string{"a", "b"}}, tale{9000, 4000, 3000, 500, 500}},
		{"one member, three ballots", play{1, setOf(0), three, []string{"a", "", "c"}}, tale{50, 30, 20, 5, 0}},
		{"two members, three ballots", play{2, setOf(0, 1), three, []string{"a", "", "c"}}, tale{500, 100, 100, 20, 0}},
		{"three members, three ballots", play{3, setOf(0, 1, 2), three, []string{"", "b", "c"}}, tale{70000, 50000, 50000, 20000, 10000}},
	} {
		met := k.play.all(t)
		if met.scenes < k.want.scenes || met.chosen < k.want.chosen || met.carried < k.want.carried || met.twice < k.want.twice || met.split < k.want.split {
			t.Errorf("%s: met %+v; want at least %+v", k.name, met, k.want)
		}
	}
}
