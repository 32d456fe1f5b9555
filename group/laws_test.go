package group_test

import (
	"fmt"
	"math/rand"
	"slices"
	"testing"

	"levee/api"
	"levee/group"
	"levee/rule"
)

// A story is rules that may be, a number first, and entries; it is looked at behind each beginning of them.
type story struct {
	rules   []api.Rule
	first   int
	entries []string
}

// someStory: of so many entries at most, mostly such as can be done.
func someStory(r *rand.Rand, most int) story {
	s := story{first: 1 + r.Intn(8)}
	for s.rules = someRules(r); rule.Check(s.rules) != api.OK; {
		s.rules = someRules(r)
	}
	for range r.Intn(most + 1) {
		s.entries = append(s.entries, someEntry(r, s.rules))
	}
	return s
}

// each: what is to be looked at behind each beginning; the group behind one entry fewer beside it (at first the same).
func (s story) each(t *testing.T, look func(before, now api.Group)) {
	t.Helper()
	var before api.Group
	for n := range len(s.entries) + 1 {
		now, err := group.Replay(s.rules, s.first, s.entries[:n])
		if err != api.OK {
			t.Fatalf("%+v, %d entries: %v", s, n, err)
		}
		if n == 0 {
			before = now
		}
		look(before, now)
		if t.Failed() {
			t.Fatalf("%s, behind %d entries: %s, then %s", short(s), n, short(before), short(now))
		}
		before = now
	}
}

// many: stories short and long, and some as long as may be.
func many(r *rand.Rand) []story {
	var l []story
	for range 5000 {
		l = append(l, someStory(r, 12))
	}
	for range 100 {
		l = append(l, someStory(r, 100))
	}
	for range 12 {
		s := someStory(r, 0)
		for range full {
			s.entries = append(s.entries, someEntry(r, s.rules))
		}
		l = append(l, s)
	}
	return l
}

// count: how many are in the set.
func count(set [8]bool) int {
	n := 0
	for _, in := range set {
		if in {
			n++
		}
	}
	return n
}

// poolsHold: of each bound the grants and what is left are together Start less Min, and nothing left is below 0; a grant is of a bound.
func poolsHold(t *testing.T, rules []api.Rule, g api.Group) {
	t.Helper()
	var keys []string
	for _, r := range rules {
		if r.Kind != api.Bound {
			continue
		}
		if len(keys) >= len(g.Pools) || g.Pools[len(keys)].Key != r.Key {
			t.Errorf("no pool of %s at %d", r.Key, len(keys))
			return
		}
		left := g.Pools[len(keys)].Left
		sum := left
		for _, x := range g.Grants {
			if x.Key == r.Key {
				sum += x.N
			}
		}
		if left < 0 || sum != r.Start-r.Min {
			t.Errorf("of %s %d is left, and with the grants %d", r.Key, left, sum)
		}
		keys = append(keys, r.Key)
	}
	if len(keys) != len(g.Pools) {
		t.Errorf("%d pools, not %d", len(g.Pools), len(keys))
	}
	for _, x := range g.Grants {
		if !slices.Contains(keys, x.Key) || x.Member < 0 || x.Member > 7 || x.N < 1 || x.N > most {
			t.Errorf("a grant %+v", x)
		}
	}
}

// P17.2: nothing of a pool is lost or made, and there is always a member.
func TestPoolsKept(t *testing.T) {
	emptied, touched, lone := 0, 0, 0
	for _, s := range many(rand.New(rand.NewSource(3))) {
		s.each(t, func(before, now api.Group) {
			poolsHold(t, s.rules, now)
			if count(now.Members) == 0 {
				t.Error("no member")
			}
			if count(now.Members) == 1 && now.Members == before.Members {
				lone++
			}
			for i, p := range now.Pools {
				if p.Left != before.Pools[i].Left {
					touched++
					if p.Left == 0 {
						emptied++
					}
				}
			}
		})
	}
	if emptied < 100 || touched < 2000 || lone < 500 {
		t.Errorf("%d grants, %d to the last unit, %d times one member alone", touched, emptied, lone)
	}
}

// P17.3: who is Gone is no member and stays Gone; the Epoch counts who became a member or went.
func TestFenced(t *testing.T) {
	gone, asked := 0, 0
	for _, s := range many(rand.New(rand.NewSource(4))) {
		s.each(t, func(before, now api.Group) {
			turned := 0
			for m := range 8 {
				if now.Gone[m] && now.Members[m] {
					t.Errorf("%d is Gone, and a member", m)
				}
				if before.Gone[m] && !now.Gone[m] {
					t.Errorf("%d isn't Gone any more", m)
				}
				if before.Members[m] && !now.Members[m] && !now.Gone[m] {
					t.Errorf("%d is no member any more, and isn't Gone", m)
				}
				if before.Members[m] != now.Members[m] {
					turned++
				}
				if now.Gone[m] {
					asked++
				}
			}
			gone += count(now.Gone) - count(before.Gone)
			if now.Epoch != before.Epoch+turned || turned > 1 {
				t.Errorf("Epoch %d, then %d; %d turned", before.Epoch, now.Epoch, turned)
			}
		})
	}
	if gone < 2000 || asked < 20000 {
		t.Errorf("%d went, and were Gone %d times", gone, asked)
	}
}

// P17.3: behind each way to go, further entries by which one might come back, or be granted something.
func TestNoWayBack(t *testing.T) {
	rules := some(bound("b", 0, 100))
	back := texts(join(2), leave(2), evict(2), ask(2, "b", 1), join(5), leave(5), "none", evict(0), join(0))
	for _, went := range texts(leave(2), evict(2)) {
		for _, a := range back {
			for _, b := range back {
				for _, c := range back {
					list := texts(went, a, b, c, join(2), ask(2, "b", 1))
					g, err := group.Replay(rules, 4, list)
					if err != api.OK || g.Members[2] || !g.Gone[2] || slices.ContainsFunc(g.Grants, func(x api.Grant) bool { return x.Member == 2 }) {
						t.Errorf("%s: %s, %v", short(list), short(g), err)
					}
				}
			}
		}
	}
}

// P17.4: the grants behind more entries begin with those behind fewer; one entry makes one more at most, and takes its units from the pool then.
func TestOnAndOn(t *testing.T) {
	longer, none := 0, 0
	for _, s := range many(rand.New(rand.NewSource(5))) {
		var all [][]api.Grant
		s.each(t, func(before, now api.Group) {
			all = append(all, now.Grants)
			if n := len(before.Grants); len(now.Grants) < n || len(now.Grants) > n+1 || !slices.Equal(now.Grants[:n], before.Grants) {
				t.Error("the grants don't go on")
			}
			if len(now.Grants) > len(before.Grants) {
				longer++
			} else {
				none++
			}
		})
		last := all[len(all)-1]
		for n, l := range all {
			if !slices.Equal(l, last[:len(l)]) {
				t.Fatalf("%s: behind %d entries %s, behind all %s", short(s), n, short(l), short(last))
			}
		}
	}
	if longer < 2000 || none < 3000 {
		t.Errorf("%d entries made a grant, %d none", longer, none)
	}
}

// P17.4: a beginning's grants stay whatever comes behind it.
func TestWhateverComes(t *testing.T) {
	r := rand.New(rand.NewSource(6))
	met := 0
	for range 3000 {
		s := someStory(r, 20)
		begun, err := group.Replay(s.rules, s.first, s.entries)
		for range 5 {
			further := slices.Clone(s.entries)
			for range 1 + r.Intn(20) {
				further = append(further, someEntry(r, s.rules))
			}
			g, err2 := group.Replay(s.rules, s.first, further)
			if err != api.OK || err2 != api.OK || len(g.Grants) < len(begun.Grants) || !slices.Equal(g.Grants[:len(begun.Grants)], begun.Grants) {
				t.Fatalf("%s: %s, %v; behind %s: %s, %v", short(s), short(begun), err, short(further), short(g), err2)
			}
			if len(begun.Grants) > 0 && len(g.Grants) > len(begun.Grants) {
				met++
			}
		}
	}
	if met < 1000 {
		t.Errorf("met %d", met)
	}
}

// P17.1: entries that can't be done, and none, may stand anywhere: the group behind the others is the same without them.
func TestVoid(t *testing.T) {
	void := 0
	for _, s := range many(rand.New(rand.NewSource(7))) {
		var done []string
		n := 0
		var last api.Group
		s.each(t, func(before, now api.Group) {
			if n > 0 && !same(before, now) {
				done = append(done, s.entries[n-1])
			}
			n++
			last = now
		})
		void += len(s.entries) - len(done)
		comes(t, fmt.Sprint("without ", len(s.entries)-len(done), " void ones"), s.rules, s.first, done, last)
	}
	if void < 3000 {
		t.Errorf("%d were void", void)
	}
}
