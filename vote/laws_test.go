package vote_test

import (
	"math"
	"math/rand"
	"slices"
	"testing"

	"levee/api"
	"levee/vote"
)

// lawful: from the one acceptor to the other Promised doesn't go down, and At, if it wasn't above it, isn't.
func lawful(t *testing.T, name string, was, is api.Acceptor) {
	t.Helper()
	if is.Promised < was.Promised {
		t.Errorf("%s: Promised goes down: %+v, behind %+v", name, is, was)
	}
	if was.At <= was.Promised && is.At > is.Promised {
		t.Errorf("%s: At gets above Promised: %+v, behind %+v", name, is, was)
	}
}

// prepared: the acceptor behind Prepare, looked at.
func prepared(t *testing.T, name string, a api.Acceptor, ballot uint64) api.Acceptor {
	t.Helper()
	want, ok := plainPrepare(a, ballot)
	prepares(t, name, a, ballot, want, ok)
	got, _ := vote.Prepare(a, ballot)
	lawful(t, name, a, got)
	return got
}

// accepted: the acceptor behind Accept, looked at.
func accepted(t *testing.T, name string, a api.Acceptor, ballot uint64, value string) api.Acceptor {
	t.Helper()
	want, ok := plainAccept(a, ballot, value)
	accepts(t, name, a, ballot, value, want, ok)
	got, _ := vote.Accept(a, ballot, value)
	lawful(t, name, a, got)
	return got
}

// P16.1: Ballot beside a plain telling of the chapter, at many numbers.
func TestPlainBallot(t *testing.T) {
	r := rand.New(rand.NewSource(1))
	met := map[api.Errno]int{}
	for range 200000 {
		round, member := r.Uint64()>>r.Intn(64), someVoter(r)
		if r.Intn(4) == 0 {
			round = lastRound - 2 + uint64(r.Intn(5))
		}
		var want uint64
		wantErr := api.ErrArg
		if member >= 0 && member <= 7 && round != 0 && round <= lastRound {
			want, wantErr = 8*round+uint64(member), api.OK
		}
		ballot(t, round, member, want, wantErr)
		met[wantErr]++
	}
	if min(met[api.OK], met[api.ErrArg]) < 20000 {
		t.Errorf("met %v", met)
	}
}

// P16.1, P16.3: Prepare and Accept beside a plain telling of the chapter, in runs that begin with any acceptor.
func TestPlainAcceptor(t *testing.T) {
	r := rand.New(rand.NewSource(2))
	met := map[string]int{}
	for range 40000 {
		a := acceptor(someNumber(r), someNumber(r), someValue(r))
		if r.Intn(3) == 0 {
			a = api.Acceptor{}
		}
		for range 1 + r.Intn(12) {
			was, n, kind := a, someNumber(r), "prepare"
			if r.Intn(2) == 0 {
				n = a.Promised + uint64(r.Intn(4)) - 1
			}
			if r.Intn(2) == 0 {
				a, kind = accepted(t, "drawn", a, n, someValue(r)), "accept"
			} else {
				a = prepared(t, "drawn", a, n)
			}
			if a == was {
				kind = "no " + kind
			}
			if a.At > a.Promised {
				met["At above Promised"]++
			}
			met[kind]++
		}
		if t.Failed() {
			t.FailNow()
		}
	}
	for _, kind := range []string{"prepare", "no prepare", "accept", "no accept", "At above Promised"} {
		if met[kind] < 5000 {
			t.Errorf("%s: %d", kind, met[kind])
		}
	}
}

// P16.1: Majority, Pick and Chosen beside a plain telling of the chapter, over many sets and votes.
func TestPlainVotes(t *testing.T) {
	r := rand.New(rand.NewSource(3))
	met := map[string]int{}
	for range 300000 {
		set, l, own, n := someSet(r), someVotes(r), someValue(r), uint64(r.Intn(3))
		if len(l) > 0 && r.Intn(2) == 0 {
			n = one(r, l...).Ballot
		}
		counts(t, "drawn", set, voters(l), plainMajority(set, voters(l)))
		value, ok := plainPick(set, n, l, own)
		picks(t, "drawn", set, n, l, own, value, ok)
		if ok {
			met["picked"]++
			if value != own {
				met["picked another's"]++
			}
		} else {
			met["not picked"]++
		}
		value, ok = plainChosen(set, l)
		chooses(t, "drawn", set, l, value, ok)
		if ok {
			met["chosen"]++
			if value != l[0].Value {
				met["chosen, not the first one"]++
			}
			slices.Reverse(l)
			if other, _ := vote.Chosen(set, l); other != value {
				met["two Values that a majority has"]++
			}
		} else {
			met["not chosen"]++
		}
		if t.Failed() {
			t.FailNow()
		}
	}
	for _, kind := range []string{"picked", "picked another's", "not picked", "chosen", "chosen, not the first one", "two Values that a majority has", "not chosen"} {
		if met[kind] < 3000 {
			t.Errorf("%s: %d", kind, met[kind])
		}
	}
}

// P16.1: Pick and Chosen beside a plain telling of the chapter: all lists of up to four of these votes, by these sets.
func TestEachFewVotes(t *testing.T) {
	kinds := votes(promised(0, 9, 0, "a"), promised(0, 9, 2, "b"), promised(1, 9, 1, "a"), promised(1, 9, 2, ""), promised(2, 9, 0, "b"), promised(1, 8, 3, "a"),
		promised(0, 8, 0, "a"), promised(5, 9, 4, "b"), promised(-1, 9, 5, "a"), promised(math.MaxInt, 8, 9, "a"))
	sets := [][8]bool{{}, setOf(0), setOf(5), setOf(0, 1), setOf(0, 1, 2), setOf(1, 2, 5, 7)}
	var on func(l []api.Vote, left int)
	on = func(l []api.Vote, left int) {
		for _, set := range sets {
			counts(t, "each", set, voters(l), plainMajority(set, voters(l)))
			for _, n := range []uint64{8, 9} {
				value, ok := plainPick(set, n, l, "own")
				picks(t, "each", set, n, l, "own", value, ok)
			}
			value, ok := plainChosen(set, l)
			chooses(t, "each", set, l, value, ok)
		}
		if left == 0 || t.Failed() {
			return
		}
		for _, v := range kinds {
			on(append(slices.Clone(l), v), left-1)
		}
	}
	on(nil, 4)
}
