package vote

import (
	"math/bits"
	"strings"

	"levee/api"
)

// A choice is what a vote is for. Votes for one value by unlike ballots aren't for the same: a majority has to be of one ballot.
type choice struct {
	ballot uint64
	value  string
}

// Majority: are those of the set who are named more than half of it?
func Majority(set [8]bool, from []int) bool {
	var crowd uint8
	for _, member := range from {
		crowd |= bit(set, member)
	}
	return most(set, crowd)
}

// Pick: what may be asked for by this ballot, if a majority answered: what was accepted last by those who did, or one's own where nothing was.
func Pick(set [8]bool, ballot uint64, votes []api.Vote, own string) (string, bool) {
	var crowd uint8
	last := api.Vote{Value: own}
	for _, v := range votes {
		voter := bit(set, v.From)
		if voter == 0 || v.Ballot != ballot {
			continue
		}
		crowd |= voter
		if v.At > last.At {
			last = v
		}
	}
	if !most(set, crowd) {
		return "", false
	}
	return strings.Clone(last.Value), true
}

// Chosen: the value that a majority accepted by one ballot, if there is one.
func Chosen(set [8]bool, votes []api.Vote) (string, bool) {
	crowds := map[choice]uint8{}
	for _, v := range votes {
		crowds[choice{v.Ballot, v.Value}] |= bit(set, v.From)
	}
	for _, v := range votes {
		if most(set, crowds[choice{v.Ballot, v.Value}]) {
			return strings.Clone(v.Value), true
		}
	}
	return "", false
}

// bit: the member's bit of a crowd, none where it isn't of the set. A crowd so counts each of its members once, and nobody else.
func bit(set [8]bool, member int) uint8 {
	if member < 0 || member >= api.MaxMembers || !set[member] {
		return 0
	}
	return 1 << member
}

// most: is the crowd more than half of the set?
func most(set [8]bool, crowd uint8) bool {
	size := 0
	for _, in := range set {
		if in {
			size++
		}
	}
	return 2*bits.OnesCount8(crowd) > size
}
