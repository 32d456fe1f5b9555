package vote_test

import (
	"math/rand"
	"slices"
	"testing"

	"levee/api"
	"levee/vote"
)

// An asking is all that may be handed in to the calls.
type asking struct {
	set    [8]bool
	a      api.Acceptor
	ballot uint64
	votes  []api.Vote
	from   []int
	value  string
}

// An answer is all that they answer.
type answer struct {
	promised, accepted      api.Acceptor
	picked, chosen          string
	promises, accepts, most bool
	isPicked, isChosen      bool
	ballot                  uint64
	err                     api.Errno
}

// ask: all calls.
func (a asking) ask() answer {
	var got answer
	got.ballot, got.err = vote.Ballot(a.ballot, len(a.from))
	got.promised, got.promises = vote.Prepare(a.a, a.ballot)
	got.accepted, got.accepts = vote.Accept(a.a, a.ballot, a.value)
	got.most = vote.Majority(a.set, a.from)
	got.picked, got.isPicked = vote.Pick(a.set, a.ballot, a.votes, a.value)
	got.chosen, got.isChosen = vote.Chosen(a.set, a.votes)
	return got
}

func someAsking(r *rand.Rand) asking {
	a := asking{set: someSet(r), a: acceptor(someNumber(r), someNumber(r), someValue(r)), votes: someVotes(r), value: someValue(r)}
	a.from = voters(someVotes(r))
	a.ballot = someNumber(r)
	if len(a.votes) > 0 && r.Intn(2) == 0 {
		a.ballot = one(r, a.votes...).Ballot
	}
	return a
}

// P16.1: what is handed in stays as it is, its spare room too, and nothing of it is kept.
func TestHandedIn(t *testing.T) {
	r := rand.New(rand.NewSource(1))
	met := map[string]int{}
	for range 40000 {
		a := someAsking(r)
		want := a.ask()
		var m room
		given := asking{a.set, m.acceptor(a.a), a.ballot, m.votes(a.votes), m.members(a.from), m.text(a.value)}
		got := given.ask()
		if given.set != a.set || given.a != a.a || !slices.Equal(given.votes, a.votes) || !slices.Equal(given.from, a.from) || given.value != a.value {
			t.Fatal("what was handed in was changed")
		}
		if given.votes[:cap(given.votes)][len(given.votes)] != spareVote || given.from[:cap(given.from)][len(given.from)] != spareMember {
			t.Fatal("the spare room of what was handed in was changed")
		}
		m.change()
		clear(given.votes)
		clear(given.from)
		if got != want {
			t.Fatalf("behind a change of what was handed in: %+v; want %+v", got, want)
		}
		for name, text := range map[string]string{
			"promised": told(got.promised.Value, got.promises), "not promised": told(got.promised.Value, !got.promises),
			"accepted": told(got.accepted.Value, got.accepts), "not accepted": told(got.accepted.Value, !got.accepts),
			"picked own": told(got.picked, got.picked == a.value), "picked another's": told(got.picked, got.picked != a.value), "chosen": got.chosen,
		} {
			if text != "" {
				met[name]++
			}
		}
	}
	for _, name := range []string{"promised", "not promised", "accepted", "not accepted", "picked own", "picked another's", "chosen"} {
		if met[name] < 500 {
			t.Errorf("%s: a text %d times", name, met[name])
		}
	}
}

// told: the text, if that is so.
func told(text string, so bool) string {
	if so {
		return text
	}
	return ""
}

// P16.1: a call hangs on its arguments alone: the same again answers the same, whatever is asked between.
func TestAgain(t *testing.T) {
	r := rand.New(rand.NewSource(2))
	var askings []asking
	var first []answer
	for range 2000 {
		a := someAsking(r)
		askings, first = append(askings, a), append(first, a.ask())
	}
	for _, i := range r.Perm(len(askings)) {
		for range 3 {
			if got := askings[i].ask(); got != first[i] {
				t.Fatalf("%+v: %+v, then %+v", askings[i], first[i], got)
			}
		}
	}
}

// P16.1: lists that hold nothing may be nil or empty.
func TestEmptyLists(t *testing.T) {
	for s := range 256 {
		set := setOf(marked(s)...)
		counts(t, "nil", set, nil, false)
		counts(t, "empty", set, []int{}, false)
		picks(t, "nil", set, 0, nil, "own", "", false)
		picks(t, "empty", set, 0, []api.Vote{}, "own", "", false)
		chooses(t, "nil", set, nil, "", false)
		chooses(t, "empty", set, []api.Vote{}, "", false)
	}
}
