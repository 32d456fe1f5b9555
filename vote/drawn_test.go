package vote_test

import (
	"math/rand"
	"slices"
	"strconv"
	"testing"

	"levee/api"
	"levee/vote"
)

// A letter is on its way between a proposer and an acceptor.
type letter struct {
	kind   int // api.Prepare, api.Promise, or api.Accept
	who    int // the acceptor that is asked; the proposer that is answered
	ballot uint64
	value  string
	answer api.Vote
}

// A proposer has ballots of its own: it is one member, and never begins a round twice.
type proposer struct {
	member int
	round  uint64
	ballot uint64 // 0: it proposes nothing
	asked  bool
	wish   string
	came   []api.Vote // all promises that ever came in
}

// A contest is eight acceptors, some of which are the set, and proposers, with letters between them.
type contest struct {
	r         *rand.Rand
	set       [8]bool
	accs      [8]api.Acceptor
	proposers []proposer
	lossy     int // of ten letters so many are lost
	slow      int // of ten asks to accept that would come in so many are held up
	bag       []letter
	said      []api.Vote // all acceptances that were ever told
}

// newContest: one that begins at any round.
func newContest(r *rand.Rand) *contest {
	c := &contest{r: r, lossy: r.Intn(6), slow: 4 + r.Intn(6)}
	for number(c.set) == 0 {
		c.set = someSet(r)
	}
	round := one(r, 0, uint64(r.Intn(9)), 1<<32-2, lastRound-2000)
	for _, m := range r.Perm(8)[:1+r.Intn(4)] {
		c.proposers = append(c.proposers, proposer{member: m, round: round})
	}
	return c
}

// begins: the proposer begins a round that it didn't begin, and asks all for promises; a promise that comes by an older ballot is too late.
func (c *contest) begins(t *testing.T, p *proposer) {
	t.Helper()
	p.round += 1 + uint64(c.r.Intn(3))
	n, err := vote.Ballot(p.round, p.member)
	if err != api.OK || n <= p.ballot {
		t.Fatalf("Ballot(%d, %d) behind %d: %d, %v", p.round, p.member, p.ballot, n, err)
	}
	p.ballot, p.asked, p.wish = n, false, one(c.r, "", strconv.Itoa(p.member), strconv.FormatUint(n, 10), strconv.FormatUint(n, 10))
	for i := range 8 {
		c.bag = append(c.bag, letter{kind: api.Prepare, who: i, ballot: n})
	}
}

// comes: the letter comes in.
func (c *contest) comes(t *testing.T, l letter) {
	t.Helper()
	switch l.kind {
	case api.Prepare:
		was := c.accs[l.who]
		is, ok := vote.Prepare(was, l.ballot)
		c.becomes(t, l.who, is, ok)
		if ok {
			c.bag = append(c.bag, letter{kind: api.Promise, who: int(l.ballot % 8), answer: promised(l.who, l.ballot, was.At, was.Value)})
		}
	case api.Accept:
		is, ok := vote.Accept(c.accs[l.who], l.ballot, l.value)
		c.becomes(t, l.who, is, ok)
		if ok {
			c.said = append(c.said, said(l.who, l.ballot, l.value))
		}
	case api.Promise:
		for i := range c.proposers {
			if p := &c.proposers[i]; p.member == l.who {
				p.came = append(p.came, l.answer)
				c.asks(p)
			}
		}
	}
}

// becomes: the acceptor is that now; with false it is as it was.
func (c *contest) becomes(t *testing.T, who int, is api.Acceptor, ok bool) {
	t.Helper()
	was := c.accs[who]
	if !ok && is != was || is.At > is.Promised {
		t.Fatalf("%+v, %v, behind %+v", is, ok, was)
	}
	lawful(t, "drawn", was, is)
	c.accs[who] = is
}

// asks: the proposer asks all to accept, if it may by what came in, and didn't yet by this ballot.
func (c *contest) asks(p *proposer) {
	if p.asked {
		return
	}
	value, ok := vote.Pick(c.set, p.ballot, p.came, p.wish)
	if !ok {
		return
	}
	p.asked = true
	for i := range 8 {
		c.bag = append(c.bag, letter{kind: api.Accept, who: i, ballot: p.ballot, value: value})
	}
}

// steps: something happens: a round begins, or a letter comes in, maybe to come again, or is lost.
func (c *contest) steps(t *testing.T, hurry int) {
	t.Helper()
	if len(c.bag) == 0 || c.r.Intn(hurry) == 0 {
		c.begins(t, &c.proposers[c.r.Intn(len(c.proposers))])
		return
	}
	place := c.r.Intn(len(c.bag))
	if c.r.Intn(4) > 0 {
		place = max(0, len(c.bag)-1-c.r.Intn(20)) // a new one: most old ones are too late for anything
	}
	l := c.bag[place]
	if l.kind == api.Accept && c.r.Intn(10) < c.slow {
		return
	}
	if c.r.Intn(8) > 0 {
		c.bag = slices.Delete(c.bag, place, place+1)
	}
	if c.r.Intn(10) >= c.lossy {
		c.comes(t, l)
	}
}

// chosen: the values that a majority accepted by one ballot each, and how many ballots these are.
func (c *contest) chosen() ([]string, int) {
	var values []string
	met, ballots := map[uint64]struct{}{}, 0
	for _, v := range c.said {
		if _, ok := met[v.Ballot]; ok {
			continue
		}
		met[v.Ballot] = struct{}{}
		value, ok := vote.Chosen(c.set, those(c.said, func(w api.Vote) bool { return w.Ballot == v.Ballot }))
		if ok {
			ballots++
			values = append(values, value)
		}
	}
	slices.Sort(values)
	return slices.Compact(values), ballots
}

// agreed: no two values are chosen, and by all that was told, in any order, just that one is.
func (c *contest) agreed(t *testing.T) (string, int) {
	t.Helper()
	values, ballots := c.chosen()
	c.r.Shuffle(len(c.said), func(i, j int) { c.said[i], c.said[j] = c.said[j], c.said[i] })
	value, ok := vote.Chosen(c.set, c.said)
	if len(values) > 1 || ok != (len(values) == 1) || ok && value != values[0] {
		t.Fatalf("chosen %q, of all %q, %v, by %v of %+v", values, value, ok, marked(number(c.set)), c.said)
	}
	return value, ballots
}

// split: was more than one value accepted?
func (c *contest) split() bool {
	return slices.ContainsFunc(c.said, func(v api.Vote) bool { return v.Value != c.said[0].Value })
}

// P16.2: many drawn plays of up to eight members: no two values are ever chosen, by all the acceptances that were ever told.
func TestDrawnPlays(t *testing.T) {
	r := rand.New(rand.NewSource(1))
	met := map[string]int{}
	for range 6000 {
		c := newContest(r)
		hurry, told := 15+r.Intn(40), 0
		first, ballots := "", 0
		for range 100 + r.Intn(500) {
			c.steps(t, hurry)
			if len(c.said) == told {
				continue
			}
			told = len(c.said)
			value, n := c.agreed(t)
			if ballots > 0 && value != first {
				t.Fatalf("%q was chosen, then %q", first, value)
			}
			first, ballots = value, n
		}
		met["plays of "+strconv.Itoa(len(marked(number(c.set))))]++
		if ballots > 0 {
			met["chosen"]++
		}
		if ballots > 1 {
			met["chosen by several ballots"]++
		}
		if c.split() {
			met["several values accepted"]++
		}
		if ballots > 1 && c.split() {
			met["both"]++
		}
	}
	for _, name := range []string{"plays of 1", "plays of 2", "plays of 3", "plays of 4", "plays of 5", "plays of 6", "plays of 7", "plays of 8", "chosen", "chosen by several ballots", "several values accepted", "both"} {
		if met[name] < 200 {
			t.Errorf("%s: %d", name, met[name])
		}
	}
}
