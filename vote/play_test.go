package vote_test

import (
	"math/bits"
	"slices"
	"testing"

	"levee/api"
	"levee/vote"
)

const (
	mostActors  = 4
	mostBallots = 3
)

// A play is acceptors, some of which are the set, and proposals, each with a ballot and a wish of its own. What was asked stays asked and what was answered stays answered, so each may come at any time, twice, or not at all.
type play struct {
	actors  int
	set     [8]bool
	ballots []uint64
	wishes  []string
}

// A scene is how far a play is: of each acceptor what it keeps, of each ballot the promises that were told, what was picked, and who told that it accepted.
type scene struct {
	accs     [mostActors]api.Acceptor
	promises [mostBallots][mostActors]api.Vote
	told     [mostBallots]uint8 // whose promise there is
	asked    [mostBallots]bool
	picked   [mostBallots]string
	said     [mostBallots]uint8 // who accepted it
}

// promisesOf: the promises of a ballot by these acceptors.
func (s scene) promisesOf(b int, who []int) []api.Vote {
	var l []api.Vote
	for _, i := range who {
		l = append(l, s.promises[b][i])
	}
	return l
}

// acceptances: all that were ever told, the last ballot's first.
func (p play) acceptances(s scene) []api.Vote {
	var l []api.Vote
	for b, n := range p.ballots {
		for _, i := range marked(int(s.said[b])) {
			l = append(votes(said(i, n, s.picked[b])), l...)
		}
	}
	return l
}

// looked: no two values are chosen; which one is, if one is.
func (p play) looked(t *testing.T, s scene) (string, bool) {
	t.Helper()
	all := p.acceptances(s)
	value, ok := vote.Chosen(p.set, all)
	for _, n := range p.ballots {
		of, chosen := vote.Chosen(p.set, those(all, func(v api.Vote) bool { return v.Ballot == n }))
		if chosen && (!ok || of != value) {
			t.Fatalf("by ballot %d %q is chosen, by all %q, %v: %+v", n, of, value, ok, s)
		}
	}
	return value, ok
}

// prepared: the scenes behind an ask for a promise that comes in.
func (p play) prepared(t *testing.T, s scene, b, i int) []scene {
	t.Helper()
	was := s.accs[i]
	is, ok := vote.Prepare(was, p.ballots[b])
	if !ok {
		if is != was {
			t.Fatalf("no promise, and %+v is %+v", was, is)
		}
		return nil
	}
	s.accs[i] = is
	s.promises[b][i] = promised(i, p.ballots[b], was.At, was.Value)
	s.told[b] |= 1 << i
	return []scene{s}
}

// accepted: the scenes behind an ask to accept that comes in.
func (p play) accepted(t *testing.T, s scene, b, i int) []scene {
	t.Helper()
	if !s.asked[b] {
		return nil
	}
	was := s.accs[i]
	is, ok := vote.Accept(was, p.ballots[b], s.picked[b])
	if !ok {
		if is != was {
			t.Fatalf("not accepted, and %+v is %+v", was, is)
		}
		return nil
	}
	s.accs[i] = is
	s.said[b] |= 1 << i
	return []scene{s}
}

// asks: the scenes behind a Pick of what may have come in by then: by any of those who promised, in any order, some twice, older answers between.
func (p play) asks(s scene, b int) []scene {
	if s.asked[b] {
		return nil
	}
	var older []api.Vote
	for o := range p.ballots {
		if o != b {
			older = append(older, s.promisesOf(o, marked(int(s.told[o])))...)
		}
	}
	var next []scene
	for who := range 1 << p.actors {
		if who&^int(s.told[b]) != 0 || bits.OnesCount(uint(who)) == 0 {
			continue
		}
		for _, from := range orders(marked(who)) {
			l := s.promisesOf(b, from)
			for _, l := range [][]api.Vote{l, append(slices.Clone(l), l[0]), slices.Concat(older, l, older)} {
				if value, ok := vote.Pick(p.set, p.ballots[b], l, p.wishes[b]); ok {
					s := s
					s.asked[b], s.picked[b] = true, value
					next = append(next, s)
				}
			}
		}
	}
	return next
}

// orders: these in each order.
func orders(l []int) [][]int {
	if len(l) == 0 {
		return [][]int{nil}
	}
	var out [][]int
	for i := range l {
		for _, rest := range orders(slices.Delete(slices.Clone(l), i, i+1)) {
			out = append(out, append(rest, l[i]))
		}
	}
	return out
}

// next: the scenes behind all that may happen.
func (p play) next(t *testing.T, s scene) []scene {
	t.Helper()
	var next []scene
	for b := range p.ballots {
		next = append(next, p.asks(s, b)...)
		for i := range p.actors {
			next = append(next, p.prepared(t, s, b, i)...)
			next = append(next, p.accepted(t, s, b, i)...)
		}
	}
	return next
}

// A tale is what was met in all scenes of a play.
type tale struct{ scenes, chosen, carried, twice, split int }

// all: each scene that the play may come to, looked at.
func (p play) all(t *testing.T) tale {
	t.Helper()
	var met tale
	seen := map[scene]struct{}{{}: {}}
	for left := []scene{{}}; len(left) > 0; {
		s := left[len(left)-1]
		left = left[:len(left)-1]
		p.tell(t, s, &met)
		for _, s := range p.next(t, s) {
			if _, ok := seen[s]; !ok {
				seen[s] = struct{}{}
				left = append(left, s)
			}
		}
	}
	return met
}

// tell: the scene is looked at, and counted.
func (p play) tell(t *testing.T, s scene, met *tale) {
	t.Helper()
	met.scenes++
	for i, a := range s.accs {
		if a.At > a.Promised {
			t.Fatalf("acceptor %d of %+v: At is above Promised", i, s)
		}
	}
	value, ok := p.looked(t, s)
	values, majorities := map[string]struct{}{}, 0
	for b := range p.ballots {
		if s.said[b] != 0 {
			values[s.picked[b]] = struct{}{}
		}
		if vote.Majority(p.set, marked(int(s.said[b]))) {
			majorities++
		}
		if ok && s.asked[b] && s.picked[b] == value && p.wishes[b] != value {
			met.carried++
		}
	}
	if ok {
		met.chosen++
	}
	if majorities > 1 {
		met.twice++
	}
	if len(values) > 1 {
		met.split++
	}
}
