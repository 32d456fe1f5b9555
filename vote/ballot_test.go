package vote_test

import (
	"math/big"
	"testing"

	"levee/api"
	"levee/vote"
)

func ballot(t *testing.T, round uint64, member int, want uint64, wantErr api.Errno) {
	t.Helper()
	if n, err := vote.Ballot(round, member); n != want || err != wantErr {
		t.Errorf("Ballot(%d, %d): %d, %v; want %d, %v", round, member, n, err, want, wantErr)
	}
}

// P16.1: eight times the round, and the member.
func TestBallot(t *testing.T) {
	ballot(t, 1, 3, 11, api.OK)
	ballot(t, 1, 0, 8, api.OK)
	ballot(t, 1, 7, 15, api.OK)
	ballot(t, 2, 0, 16, api.OK)
	ballot(t, lastRound, 0, 1<<63, api.OK)
	ballot(t, lastRound, 7, 1<<63+7, api.OK)
	for _, round := range []uint64{1, 2, 3, 255, 256, 1<<29 - 1, 1 << 29, 1<<32 - 1, 1 << 32, 1<<57 + 5, lastRound - 1, lastRound} {
		for member := range 8 {
			want := new(big.Int).Mul(big.NewInt(8), new(big.Int).SetUint64(round))
			want.Add(want, big.NewInt(int64(member)))
			if !want.IsUint64() {
				t.Fatalf("%v", want)
			}
			ballot(t, round, member, want.Uint64(), api.OK)
		}
	}
}

// P16.1: the ballots of rounds and members are unlike, and rise by rounds, then by members.
func TestBallotsOfOnesOwn(t *testing.T) {
	for _, from := range []uint64{1, 1 << 31, lastRound - 40} {
		last, _ := vote.Ballot(from, 0)
		for round := from; round <= from+40; round++ {
			for member := range 8 {
				n, err := vote.Ballot(round, member)
				if first := round == from && member == 0; err != api.OK || !first && n != last+1 {
					t.Errorf("Ballot(%d, %d): %d, %v; want %d", round, member, n, err, last+1)
				}
				last = n
			}
		}
	}
}

// P16.1: a round that isn't from 1 to 2^60, a member that is none, and both.
func TestNoBallot(t *testing.T) {
	good := []uint64{1, 2, 77, lastRound - 1, lastRound}
	wrong := []uint64{0, lastRound + 1, lastRound + 2, 1 << 61, 1<<61 + 1, 1 << 62, 1<<63 - 1, 1 << 63, 1<<63 + 1, top - 1, top}
	for _, round := range wrong {
		for member := range 8 {
			ballot(t, round, member, 0, api.ErrArg)
		}
	}
	for _, member := range strangers {
		for _, round := range append(good, wrong...) {
			ballot(t, round, member, 0, api.ErrArg)
		}
	}
}
