package right_test

import (
	"fmt"
	"math/rand"
	"slices"
	"strconv"
	"testing"

	"levee/api"
	"levee/cut"
	"levee/right"
	"levee/rule"
)

// A history is members, each with logs of its own, at first none, that go by the same rules and grants.
type history struct {
	rules  []api.Rule
	grants []api.Grant
	logs   []api.Logs
}

// does: the member makes a transaction of these operations, if it may, and its logs have it.
func (h history) does(t *testing.T, member int, list []api.Op) api.Errno {
	t.Helper()
	x, err := right.Make(h.rules, h.grants, h.logs[member], member, list)
	if err != api.OK {
		return err
	}
	longer, err := cut.Add(h.logs[member], x)
	if err != api.OK {
		t.Fatalf("the logs may not have %+v added: %v", x, err)
	}
	h.logs[member] = longer
	return api.OK
}

// takes: one member takes over the logs of another one.
func (h history) takes(t *testing.T, member, from int) {
	t.Helper()
	h.logs[member] = joined(t, h.logs[member], h.logs[from])
}

// union: all logs together.
func (h history) union(t *testing.T) api.Logs {
	t.Helper()
	return joined(t, h.logs...)
}

// joined: these logs together.
func joined(t *testing.T, all ...api.Logs) api.Logs {
	t.Helper()
	var l api.Logs
	for _, one := range all {
		var err api.Errno
		if l, err = cut.Join(l, one); err != api.OK {
			t.Fatalf("logs of one history: %v", err)
		}
	}
	return l
}

// neverBelow: at every closed cut of all logs together every rule holds, and Slack is nothing or more; the cuts.
func (h history) neverBelow(t *testing.T) []api.Vector {
	t.Helper()
	l := h.union(t)
	cuts := closedCuts(l)
	for _, v := range cuts {
		if held, err := rule.Holds(h.rules, l, v); !held || err != api.OK {
			t.Fatalf("at %v of %+v by %v a rule doesn't hold: %v", v, l, h.grants, err)
		}
		for _, r := range h.rules {
			if r.Kind != api.Bound {
				continue
			}
			if n, err := right.Slack(h.rules, l, v, r.Key); n < 0 || err != api.OK {
				t.Fatalf("at %v of %+v the Slack of %s is %d, %v", v, l, r.Key, n, err)
			}
		}
	}
	return cuts
}

// sums: by these logs all members' units together are the grants with all Incs, without all Decs.
func (h history) sums(t *testing.T, l api.Logs) {
	t.Helper()
	for _, r := range h.rules {
		if r.Kind != api.Bound {
			continue
		}
		var got, want int64
		for member := range 8 {
			n, err := right.Units(h.rules, h.grants, l, member, r.Key)
			if err != api.OK {
				t.Fatal(err)
			}
			got += n
		}
		for _, g := range h.grants {
			if g.Key == r.Key {
				want += g.N
			}
		}
		change, err := right.Slack(h.rules, l, cut.Size(l), r.Key)
		if want += change - (r.Start - r.Min); got != want || err != api.OK {
			t.Errorf("all units of %s are %d, %v; want %d, of %+v", r.Key, got, err, want, l)
		}
	}
}

// someHistory: every with bounds that are near their least, and so many grants that nothing, or little, is left.
func someHistory(r *rand.Rand, members int) history {
	h := history{rules: every(), logs: make([]api.Logs, members)}
	for i, x := range h.rules {
		if x.Kind != api.Bound {
			continue
		}
		least, left := one[int64](r, 0, 3, -9, most-40), r.Int63n(13)
		h.rules[i] = bound(x.Key, least, least+left)
		if r.Intn(3) == 0 {
			left -= r.Int63n(left + 1)
		}
		for left > 0 {
			n := 1 + r.Int63n(left)
			h.grants = append(h.grants, grant(x.Key, r.Intn(members), n))
			left -= n
		}
	}
	return h
}

// P15.2: whatever members make and take over, at every closed cut of all logs together every rule holds.
// P15.3: by all logs, and by each member's, all units are the grants with all Incs, without all Decs.
func TestNeverBelow(t *testing.T) {
	r := rand.New(rand.NewSource(1))
	met, done, least, cuts := map[api.Errno]int{}, map[int]int{}, 0, 0
	for range 6000 {
		members := 2 + r.Intn(4)
		h := someHistory(r, members)
		lazy := 1 + r.Intn(6) // the greater, the less is taken over
		for range 4 + r.Intn(12) {
			member := r.Intn(members)
			if r.Intn(lazy) == 0 {
				h.takes(t, member, r.Intn(members))
			}
			met[h.does(t, member, someOps(r, member))]++
		}
		l := h.union(t)
		for _, l := range append(h.logs, l) {
			h.sums(t, l)
		}
		for _, x := range cut.Order(l, cut.Size(l)) {
			for _, o := range x.Ops {
				done[o.Kind]++
			}
		}
		all := h.neverBelow(t)
		cuts += len(all)
		for _, v := range all {
			if n, _ := right.Slack(h.rules, l, v, "b"); n == 0 && v != (api.Vector{}) {
				least++
			}
		}
		if t.Failed() {
			t.FailNow()
		}
	}
	if min(met[api.OK], met[api.ErrRights]) < 3000 || met[api.ErrTwice] < 500 || cuts < 40000 || least < 1500 {
		t.Errorf("met %v, %d cuts, a bound at its least at %d", met, cuts, least)
	}
	for kind := api.Inc; kind <= api.Off; kind++ {
		if done[kind] < 200 {
			t.Errorf("kind %d: %d", kind, done[kind])
		}
	}
}

// P15.2: each history of two members, of five steps: all that they may make of a few operations, and take over.
func TestEachHistory(t *testing.T) {
	rules := some(bound("b", 0, 2), ids("i"))
	ends := 0
	var on func(h history, steps int)
	on = func(h history, steps int) {
		if steps == 0 {
			ends++
			h.neverBelow(t)
			h.sums(t, h.union(t))
			return
		}
		for member := range 2 {
			to := strconv.Itoa(1 - member)
			for _, list := range [][]api.Op{ops(dec("b", 1)), ops(dec("b", 2)), ops(give("b", to, 1)), ops(inc("b", 1), give("b", to, 2)), ops(add("i", strconv.Itoa(member)))} {
				next := history{h.rules, h.grants, slices.Clone(h.logs)}
				if next.does(t, member, list) == api.OK {
					on(next, steps-1)
				}
			}
			next := history{h.rules, h.grants, slices.Clone(h.logs)}
			next.takes(t, member, 1-member)
			on(next, steps-1)
		}
	}
	for _, grants := range [][]api.Grant{granted(grant("b", 0, 2)), granted(grant("b", 0, 1), grant("b", 1, 1))} {
		on(history{rules, grants, make([]api.Logs, 2)}, 5)
	}
	if ends < 20000 {
		t.Errorf("%d histories", ends)
	}
}

// P15.2: by grants of one unit more than Start less Min the bound is broken: the law's tests would see that.
func TestTooMuchGranted(t *testing.T) {
	h := history{some(bound("b", 3, 5)), granted(grant("b", 0, 2), grant("b", 1, 1)), make([]api.Logs, 2)}
	for member, n := range []int64{2, 1} {
		if err := h.does(t, member, ops(dec("b", n))); err != api.OK {
			t.Fatal(err)
		}
	}
	l := h.union(t)
	for _, v := range closedCuts(l) {
		held, err := rule.Holds(h.rules, l, v)
		if held != (v != api.Vector{1, 1}) || err != api.OK {
			t.Errorf("at %v: %t, %v", v, held, err)
		}
		slack(t, "too much granted", h.rules, l, v, "b", 2-2*int64(v[0])-int64(v[1]), api.OK)
	}
	h.sums(t, l)
}

// P15.3: all units together, by logs that no rights made, of all members.
func TestSums(t *testing.T) {
	r := rand.New(rand.NewSource(3))
	for range 2000 {
		h := history{rules: every(), grants: someGrants(r, 8)}
		h.sums(t, someLogs(r, 1+r.Intn(8), r.Intn(20)))
	}
	given := story(by(0, give("b", "1", 5), give("b", "7", most)), by(7, give("b", "0", 1)), by(1, inc("b", 9), dec("b", 2), give("b", "0", 1)))
	for _, grants := range [][]api.Grant{nil, granted(grant("b", 0, 4), grant("b", 6, 5), grant("d", 1, 100))} {
		h := history{rules: every(), grants: grants}
		h.sums(t, given)
		var sum, want int64 = 0, 7
		for member := range 8 {
			n, _ := right.Units(every(), grants, given, member, "b")
			sum += n
		}
		if grants != nil {
			want += 9
		}
		if sum != want {
			t.Errorf("all units are %d, want %d", sum, want)
		}
	}
}

// reaches: the member makes n transactions of one Dec 1 each, and not one more.
func (h history) reaches(t *testing.T, name string, member int, n int64) {
	t.Helper()
	has(t, name, h.rules, h.grants, h.logs[member], member, "b", n, api.OK)
	for k := range n {
		if err := h.does(t, member, ops(dec("b", 1))); err != api.OK {
			t.Fatalf("%s: number %d of %d: %v", name, k+1, n, err)
		}
		has(t, name, h.rules, h.grants, h.logs[member], member, "b", n-k-1, api.OK)
	}
	refused(t, name+", one more", h.rules, h.grants, h.logs[member], member, ops(dec("b", 1)), api.ErrRights)
}

// P15.4: with n units a member makes n transactions of one Dec 1 each, and not one more, wherever the units come from.
func TestReached(t *testing.T) {
	for _, n := range []int64{0, 1, 2, 3, 17} {
		for member := range 8 {
			other := (member + 3) % 8
			at := func(grants []api.Grant, l api.Logs) history {
				h := history{every(), grants, make([]api.Logs, 8)}
				h.logs[member] = l
				return h
			}
			to, name := strconv.Itoa(member), fmt.Sprint(n, " units of member ", member)
			var own []api.Grant
			for range n {
				own = append(own, grant("b", member, 1))
			}
			at(own, api.Logs{}).reaches(t, name+", granted one by one", member, n)
			at(append(own, grant("b", other, 100), grant("d", member, 100)), api.Logs{}).reaches(t, name+", beside others", member, n)
			at(nil, story(by(member, inc("b", n+1)), by(member, dec("b", 1)))).reaches(t, name+", by an Inc", member, n)
			at(nil, story(by(other, give("b", to, n+5)), by(member, give("b", strconv.Itoa(other), 5)))).reaches(t, name+", by a Give", member, n)
			at(granted(grant("b", member, 9)), story(by(member, dec("b", 9), inc("b", 4), dec("b", 4)), by(other, give("b", to, n+1)), by(member, dec("b", 1)))).reaches(t, name+", by this and that", member, n)
		}
	}
}

// P15.4: as many as a log may have: behind the last one there is no unit left, which is told ahead of the full log.
func TestReachedFull(t *testing.T) {
	h := history{some(bound("b", 0, full)), granted(grant("b", 5, full)), make([]api.Logs, 8)}
	h.reaches(t, "a full log", 5, full)
	h.sums(t, h.logs[5])
	slack(t, "a full log", h.rules, h.logs[5], cut.Size(h.logs[5]), "b", 0, api.OK)
	refused(t, "a full log", h.rules, h.grants, h.logs[5], 5, ops(inc("b", 1)), api.ErrFull)
}
