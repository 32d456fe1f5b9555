package group_test

import (
	"fmt"
	"math/rand"
	"slices"
	"strings"
	"testing"

	"levee/api"
	"levee/group"
	"levee/rule"
)

// P17.1: the group at first, and behind entries that do nothing.
func TestBeginnings(t *testing.T) {
	for first := 1; first <= 8; first++ {
		want := api.Group{Members: numbers(below(first)...)}
		comes(t, "no entries", nil, first, nil, want)
		comes(t, "no entries", some(), first, texts(), want)
		comes(t, "none", some(), first, texts("none"), want)
		comes(t, "none, as often as may be", some(), first, slices.Repeat(texts("none"), full), want)
		want.Pools = pools(pool("b", 47), pool("a", 2), pool("z/9", 0))
		comes(t, "pools", every(), first, nil, want)
		comes(t, "pools, none", every(), first, texts("none", "none"), want)
	}
}

// P17.1: a pool for each Bound rule, in the order of the rules, with Start less Min units.
func TestPools(t *testing.T) {
	for _, k := range []struct {
		name  string
		rules []api.Rule
		want  []api.Pool
	}{
		{"no rules", nil, nil},
		{"no Bound", some(counter("b"), set("a"), of(api.Firm, "m"), of(api.Last, "l"), of(api.Multi, "u"), flag("f", 1), of(api.Ids, "i")), nil},
		{"one", some(bound("b", 0, 5)), pools(pool("b", 5))},
		{"above noughts", some(bound("b", 3, 50)), pools(pool("b", 47))},
		{"Min below 0", some(bound("b", -7, 5)), pools(pool("b", 12))},
		{"both below 0", some(bound("b", -7, -5)), pools(pool("b", 2))},
		{"nothing left", some(bound("b", 4, 4), bound("c", -4, -4), bound("d", 0, 0)), pools(pool("b", 0), pool("c", 0), pool("d", 0))},
		{"in their order, falling", some(bound("c", 0, 1), bound("b", 0, 2), bound("a", 0, 3)), pools(pool("c", 1), pool("b", 2), pool("a", 3))},
		{"in their order, rising", some(bound("a", 0, 3), set("q"), bound("b", 0, 2), bound("c", 0, 1)), pools(pool("a", 3), pool("b", 2), pool("c", 1))},
		{"behind and ahead of others", some(ref("s", "t"), bound("z", 0, 1), set("t"), set("s"), bound("a", 0, 2), counter("k")), pools(pool("z", 1), pool("a", 2))},
		{"the greatest magnitudes", some(bound("b", -most, most), bound("c", most, most), bound("d", -most, -most), bound("e", 0, most), bound("f", -most, 0), bound("g", 1-most, most)),
			pools(pool("b", 2*most), pool("c", 0), pool("d", 0), pool("e", most), pool("f", most), pool("g", 2*most-1))},
	} {
		comes(t, k.name, k.rules, 3, nil, api.Group{Members: numbers(0, 1, 2), Pools: k.want})
	}
	var rules []api.Rule
	var want []api.Pool
	for i := range 64 {
		key := fmt.Sprint("k", (i*37)%64)
		rules, want = append(rules, bound(key, int64(-i), int64(i))), append(want, pool(key, int64(2*i)))
	}
	comes(t, "as many as may be", rules, 1, nil, api.Group{Members: numbers(0), Pools: want})
}

// P17.1: what entries do to the members, one behind the other; what can't be done leaves the Epoch, too.
func TestMembers(t *testing.T) {
	for _, k := range []struct {
		name     string
		first    int
		entries  []string
		in, gone []int
		epoch    int
	}{
		{"join of one that is none", 3, texts(join(5)), []int{0, 1, 2, 5}, nil, 1},
		{"join of the next one", 3, texts(join(3)), []int{0, 1, 2, 3}, nil, 1},
		{"join of a member", 3, texts(join(1)), []int{0, 1, 2}, nil, 0},
		{"join twice", 3, texts(join(5), join(5)), []int{0, 1, 2, 5}, nil, 1},
		{"join of one that left", 3, texts(leave(1), join(1)), []int{0, 2}, []int{1}, 1},
		{"join of one that was evicted", 3, texts(evict(1), join(1)), []int{0, 2}, []int{1}, 1},
		{"join of one that joined and left", 3, texts(join(7), leave(7), join(7)), []int{0, 1, 2}, []int{7}, 2},
		{"join of all", 1, texts(join(7), join(6), join(5), join(4), join(3), join(2), join(1), join(0)), below(8), nil, 7},
		{"leave of a member", 3, texts(leave(0)), []int{1, 2}, []int{0}, 1},
		{"evict of a member", 3, texts(evict(2)), []int{0, 1}, []int{2}, 1},
		{"leave twice", 3, texts(leave(0), leave(0)), []int{1, 2}, []int{0}, 1},
		{"evict of one that left", 3, texts(leave(0), evict(0)), []int{1, 2}, []int{0}, 1},
		{"leave of one that was evicted", 3, texts(evict(0), leave(0)), []int{1, 2}, []int{0}, 1},
		{"leave of one that is none", 3, texts(leave(3)), []int{0, 1, 2}, nil, 0},
		{"evict of one that is none", 3, texts(evict(7)), []int{0, 1, 2}, nil, 0},
		{"join behind a void leave", 3, texts(leave(3), join(3)), []int{0, 1, 2, 3}, nil, 1},
		{"join behind a void evict", 3, texts(evict(3), join(3)), []int{0, 1, 2, 3}, nil, 1},
		{"leave of the only member", 1, texts(leave(0)), []int{0}, nil, 0},
		{"evict of the only member", 1, texts(evict(0)), []int{0}, nil, 0},
		{"leave of another than the only member", 1, texts(leave(1)), []int{0}, nil, 0},
		{"the last two", 2, texts(leave(0), leave(1), evict(1)), []int{1}, []int{0}, 1},
		{"the last two, the other way", 2, texts(evict(1), evict(0), leave(0)), []int{0}, []int{1}, 1},
		{"who may not leave, then may", 1, texts(leave(0), join(1), leave(0)), []int{1}, []int{0}, 2},
		{"all but one", 8, texts(leave(0), evict(1), leave(2), evict(3), leave(4), evict(5), leave(6), evict(7), leave(7)), []int{7}, below(7), 7},
		{"all but one, and none comes back", 8, texts(leave(7), evict(6), leave(5), evict(4), leave(3), evict(2), leave(1), evict(0), join(1), join(7), join(0)), []int{0}, []int{1, 2, 3, 4, 5, 6, 7}, 7},
		{"void ones between", 3, texts(join(0), leave(5), join(4), "none", evict(6), ask(0, "nobody", 1), leave(2), join(2), evict(4), join(4)), []int{0, 1}, []int{2, 4}, 3},
	} {
		comes(t, k.name, nil, k.first, k.entries, api.Group{Epoch: k.epoch, Members: numbers(k.in...), Gone: numbers(k.gone...)})
		with := slices.Insert(slices.Clone(k.entries), len(k.entries)/2, "none")
		comes(t, k.name+", none between", nil, k.first, with, api.Group{Epoch: k.epoch, Members: numbers(k.in...), Gone: numbers(k.gone...)})
		left := pools(pool("b", 47), pool("a", 2), pool("z/9", 0))
		comes(t, k.name+", with pools", every(), k.first, k.entries, api.Group{Epoch: k.epoch, Members: numbers(k.in...), Gone: numbers(k.gone...), Pools: left})
	}
}

// P17.1: each member joins, leaves and is evicted, from each group at first.
func TestEachMember(t *testing.T) {
	for first := 1; first <= 8; first++ {
		for m := range 8 {
			in, is := below(first), m < first
			joined, parted := api.Group{Members: numbers(in...)}, api.Group{Members: numbers(in...)}
			if !is {
				joined = api.Group{Epoch: 1, Members: numbers(append(in, m)...)}
			}
			if is && first > 1 {
				parted = api.Group{Epoch: 1, Members: numbers(without(in, m)...), Gone: numbers(m)}
			}
			comes(t, "join", nil, first, texts(join(m)), joined)
			comes(t, "leave", nil, first, texts(leave(m)), parted)
			comes(t, "evict", nil, first, texts(evict(m)), parted)
			comes(t, "again", nil, first, texts(join(m), join(m)), joined)
			comes(t, "again", nil, first, texts(leave(m), evict(m), leave(m)), parted)
			if is && first > 1 {
				comes(t, "and back", nil, first, texts(leave(m), join(m)), parted)
				comes(t, "and back", nil, first, texts(evict(m), join(m)), parted)
			}
		}
	}
}

// P17.1: grants from one pool: of less than what is left, of just that, of one more; to a member, and to who is none.
func TestGrants(t *testing.T) {
	five := some(bound("b", 0, 5))
	at := func(epoch int, in, gone []int, left int64, grants ...api.Grant) api.Group {
		return api.Group{Epoch: epoch, Members: numbers(in...), Gone: numbers(gone...), Pools: pools(pool("b", left)), Grants: grants}
	}
	three := below(3)
	for _, k := range []struct {
		name    string
		entries []string
		want    api.Group
	}{
		{"twice three of five", texts(ask(0, "b", 3), ask(0, "b", 3)), at(0, three, nil, 2, grant("b", 0, 3))},
		{"one", texts(ask(2, "b", 1)), at(0, three, nil, 4, grant("b", 2, 1))},
		{"just what is left", texts(ask(0, "b", 5)), at(0, three, nil, 0, grant("b", 0, 5))},
		{"one more", texts(ask(0, "b", 6)), at(0, three, nil, 5)},
		{"as much as may be asked for", texts(ask(0, "b", most)), at(0, three, nil, 5)},
		{"what is left, then one more", texts(ask(0, "b", 3), ask(1, "b", 2), ask(2, "b", 1)), at(0, three, nil, 0, grant("b", 0, 3), grant("b", 1, 2))},
		{"too much, then less", texts(ask(0, "b", 3), ask(1, "b", 3), ask(1, "b", 2)), at(0, three, nil, 0, grant("b", 0, 3), grant("b", 1, 2))},
		{"one by one", slices.Repeat(texts(ask(1, "b", 1)), 7), at(0, three, nil, 0, slices.Repeat(granted(grant("b", 1, 1)), 5)...)},
		{"in their order", texts(ask(2, "b", 1), ask(0, "b", 2), ask(1, "b", 1)), at(0, three, nil, 1, grant("b", 2, 1), grant("b", 0, 2), grant("b", 1, 1))},
		{"none between", texts("none", ask(2, "b", 1), "none", "none", ask(0, "b", 2), "none"), at(0, three, nil, 2, grant("b", 2, 1), grant("b", 0, 2))},
		{"to one that is none", texts(ask(3, "b", 1)), at(0, three, nil, 5)},
		{"to one that is none, then joins", texts(ask(3, "b", 1), join(3)), at(1, below(4), nil, 5)},
		{"to one that joined", texts(join(3), ask(3, "b", 1)), at(1, below(4), nil, 4, grant("b", 3, 1))},
		{"to one that left", texts(leave(0), ask(0, "b", 1)), at(1, []int{1, 2}, []int{0}, 5)},
		{"to one that was evicted", texts(evict(0), ask(0, "b", 1)), at(1, []int{1, 2}, []int{0}, 5)},
		{"to one that left, and may not come back", texts(leave(0), join(0), ask(0, "b", 1)), at(1, []int{1, 2}, []int{0}, 5)},
		{"to one that leaves then", texts(ask(0, "b", 2), leave(0), ask(0, "b", 2)), at(1, []int{1, 2}, []int{0}, 3, grant("b", 0, 2))},
		{"to one that is evicted then", texts(ask(0, "b", 2), evict(0), ask(1, "b", 3)), at(1, []int{1, 2}, []int{0}, 0, grant("b", 0, 2), grant("b", 1, 3))},
		{"of a key without a rule", texts(ask(0, "a", 1), ask(0, "bb", 1), ask(0, "b/", 1), ask(0, "0", 1)), at(0, three, nil, 5)},
		{"of another key, then of this one", texts(ask(0, "a", 1), ask(0, "b", 1)), at(0, three, nil, 4, grant("b", 0, 1))},
	} {
		comes(t, k.name, five, 3, k.entries, k.want)
	}
	comes(t, "to the only member", five, 1, texts(evict(0), ask(0, "b", 5), leave(0)), at(0, []int{0}, nil, 0, grant("b", 0, 5)))
	for m := range 8 {
		comes(t, "to each", five, 8, texts(ask(m, "b", 4)), at(0, below(8), nil, 1, grant("b", m, 4)))
	}
}

// P17.1: grants from several pools, and of keys whose rules are no Bounds.
func TestSeveralPools(t *testing.T) {
	members := numbers(0, 1)
	two := some(bound("b", 0, 5), set("s"), bound("a", -3, 1))
	for _, k := range []struct {
		name    string
		rules   []api.Rule
		entries []string
		want    []api.Pool
		grants  []api.Grant
	}{
		{"the first alone", two, texts(ask(0, "b", 5), ask(0, "b", 1)), pools(pool("b", 0), pool("a", 4)), granted(grant("b", 0, 5))},
		{"the last alone", two, texts(ask(0, "a", 4), ask(0, "a", 1)), pools(pool("b", 5), pool("a", 0)), granted(grant("a", 0, 4))},
		{"both, in the order of the entries", two, texts(ask(1, "a", 1), ask(0, "b", 2), ask(0, "a", 3), ask(1, "b", 3)), pools(pool("b", 0), pool("a", 0)), granted(grant("a", 1, 1), grant("b", 0, 2), grant("a", 0, 3), grant("b", 1, 3))},
		{"more than is left of the one, not of the other", two, texts(ask(0, "a", 5), ask(0, "b", 5)), pools(pool("b", 0), pool("a", 4)), granted(grant("b", 0, 5))},
		{"nothing left from the beginning", every(), texts(ask(0, "z/9", 1), ask(1, "b", 47), ask(0, "a", 2)), pools(pool("b", 0), pool("a", 0), pool("z/9", 0)), granted(grant("b", 1, 47), grant("a", 0, 2))},
		{"the greatest magnitudes", some(bound("b", -most, most), bound("a", 0, most)), texts(ask(0, "b", most), ask(0, "a", most), ask(1, "b", most), ask(1, "b", 1), ask(1, "a", 1)), pools(pool("b", 0), pool("a", 0)), granted(grant("b", 0, most), grant("a", 0, most), grant("b", 1, most))},
		{"near the greatest magnitudes", some(bound("b", -most, most)), texts(ask(0, "b", most), ask(0, "b", 1), ask(0, "b", most), ask(0, "b", most-1)), pools(pool("b", 0)), granted(grant("b", 0, most), grant("b", 0, 1), grant("b", 0, most-1))},
		{"keys that are nearly alike", some(bound("aa", 0, 1), bound("a", 0, 2), bound("a/", 0, 3)), texts(ask(0, "a", 2), ask(0, "a/", 1), ask(0, "aaa", 1), ask(0, "aa", 1)), pools(pool("aa", 0), pool("a", 0), pool("a/", 2)), granted(grant("a", 0, 2), grant("a/", 0, 1), grant("aa", 0, 1))},
		{"a key of 32 bytes", some(bound(strings.Repeat("k", 32), 0, 5)), texts(ask(0, strings.Repeat("k", 31), 1), ask(0, strings.Repeat("k", 32), 2)), pools(pool(strings.Repeat("k", 32), 3)), granted(grant(strings.Repeat("k", 32), 0, 2))},
		{"no rules", nil, texts(ask(0, "b", 1)), nil, nil},
	} {
		comes(t, k.name, k.rules, 2, k.entries, api.Group{Members: members, Pools: k.want, Grants: k.grants})
	}
	for _, r := range every() {
		if r.Kind != api.Bound {
			left := pools(pool("b", 47), pool("a", 2), pool("z/9", 0))
			comes(t, "a key of another kind", every(), 2, texts(ask(0, r.Key, 1), ask(1, r.Key, most)), api.Group{Members: members, Pools: left})
		}
	}
}

// P17.1: all short lists of a few entries, as the chapter's words tell them.
func TestEachShortList(t *testing.T) {
	rules := some(counter("c"), bound("b", -1, 2), bound("a", 0, 1))
	words := texts("none", join(0), join(2), leave(0), evict(1), leave(2), ask(0, "b", 1), ask(1, "b", 2), ask(2, "b", 3), ask(0, "a", 1), ask(1, "c", 1))
	met := 0
	for first := 1; first <= 3; first++ {
		lists := [][]string{nil}
		for range 5 {
			var longer [][]string
			for _, l := range lists {
				asTold(t, rules, first, l)
				met++
				for _, w := range words {
					longer = append(longer, append(slices.Clone(l), w))
				}
			}
			lists = longer
		}
	}
	if met != 3*(1+11+121+1331+14641) {
		t.Errorf("met %d", met)
	}
}

// P17.1: drawn rules, numbers first and lists of entries, as the chapter's words tell them.
func TestDrawn(t *testing.T) {
	r := rand.New(rand.NewSource(1))
	met := map[api.Errno]int{}
	grants, gone, joined := 0, 0, 0
	for range 60000 {
		rules, first := someRules(r), someFirst(r)
		want, err := asTold(t, rules, first, someEntries(r, rules, one(r, 3, 10, 40)))
		met[err]++
		grants += len(want.Grants)
		for m := range 8 {
			if want.Gone[m] {
				gone++
			}
			if want.Members[m] && m >= first {
				joined++
			}
		}
	}
	for _, err := range []api.Errno{api.OK, api.ErrArg, api.ErrRule, api.ErrGroup} {
		if met[err] < 500 {
			t.Errorf("%v %d times", err, met[err])
		}
	}
	if met[api.OK] < 30000 || grants < 20000 || gone < 20000 || joined < 10000 {
		t.Errorf("%v, %d grants, %d gone, %d joined", met, grants, gone, joined)
	}
}

// P17.1: each entry that is none is refused, each other one is taken, whatever it is.
func TestAnyEntry(t *testing.T) {
	r := rand.New(rand.NewSource(2))
	met := map[api.Errno]int{}
	for range 40000 {
		s := spoilt(r, someEntry(r, every()))
		want := api.ErrGroup
		if plainFits(s) {
			want = api.OK
		}
		if fitting := group.Fits(s); fitting != (want == api.OK) {
			t.Fatalf("Fits(%q): %v", s, fitting)
		}
		if _, err := asTold(t, every(), 1+r.Intn(8), texts(s)); err != want {
			t.Fatalf("%q: %v, not %v", s, err, want)
		}
		met[want]++
	}
	if met[api.OK] < 1000 || met[api.ErrGroup] < 1000 {
		t.Errorf("met %v", met)
	}
}

// P17.1: of the errors' tests the catalogues are what their names say.
func TestCatalogues(t *testing.T) {
	if err := rule.Check(every()); err != api.OK {
		t.Error("every:", err)
	}
	for _, c := range noCatalogues() {
		if err := rule.Check(c.rules); err != c.want {
			t.Errorf("%s: %v", c.name, err)
		}
	}
}
