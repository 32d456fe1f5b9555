package rule_test

import (
	"fmt"
	"math/rand"
	"slices"
	"testing"

	"levee/api"
	"levee/cut"
	"levee/rule"
	"levee/value"
)

// formedLogs: logs that may be, all of whose transactions have the Form that the rules ask for.
func formedLogs(r *rand.Rand, rules []api.Rule, members, n int) api.Logs {
	var l api.Logs
	for range n {
		i, deps := r.Intn(members), someDeps(r, l)
		list := someOps(r, rules, i)
		if rule.Form(rules, i, list) == api.OK {
			l = by(i, list...).seeing(deps[:]...).behind(l)
		}
	}
	return l
}

// pairing: the rules without those that Form alone doesn't hold.
func pairing(rules []api.Rule) []api.Rule {
	return slices.DeleteFunc(slices.Clone(rules), func(r api.Rule) bool { return r.Kind == api.Bound || r.Kind == api.Ids })
}

// A tally is what the logs of a law had in them.
type tally struct{ cuts, refs, gone, lit, turned int }

// count: of a cut the Refs of which something is in KEY, or something of OTHER is gone; the Eithers of which one alone is on, or neither as at first.
func (c *tally) count(rules []api.Rule, l api.Logs, v api.Vector) {
	of := func(key string) (api.Value, int64) {
		r := rules[rule.Find(rules, key)]
		w, _ := value.Value(r.Kind, r.Start, l, v, key)
		return w, r.Start
	}
	c.cuts++
	for _, r := range rules {
		if r.Kind < api.Ref {
			continue
		}
		a, startA := of(r.Key)
		b, startB := of(r.Other)
		if r.Kind == api.Either {
			c.lit += number(a.On != b.On)
			c.turned += number(a.On != (startA == 1) && b.On != (startB == 1))
			continue
		}
		c.refs += len(a.Elems)
		for _, t := range cut.Order(l, v) {
			for _, o := range t.Ops {
				if o.Kind == api.Add && o.Key == r.Other && !slices.Contains(b.Elems, o.Elem) {
					c.gone++
				}
			}
		}
	}
}

// number: 1 of what is so.
func number(b bool) int {
	if b {
		return 1
	}
	return 0
}

// P14.3: at every closed cut of logs all of whose transactions have their Form each Ref and each Either holds.
func TestRestoringForms(t *testing.T) {
	r := rand.New(rand.NewSource(1))
	var c tally
	for range 6000 {
		rules := goodRules(r, 6)
		if r.Intn(2) == 0 {
			rules = rulesOf(r, 5, api.Set, api.Flag)
		}
		if !slices.ContainsFunc(rules, func(x api.Rule) bool { return x.Kind >= api.Ref }) {
			continue
		}
		l := formedLogs(r, rules, 2+r.Intn(3), 2+r.Intn(9))
		cuts := closedCuts(l)
		for _, v := range cuts {
			holds(t, "by their Form", pairing(rules), l, v, true)
		}
		c.count(rules, l, cuts[r.Intn(len(cuts))])
		c.count(rules, l, cut.Size(l))
		if t.Failed() {
			t.Fatalf("of %+v, %+v", rules, l)
		}
	}
	if c.cuts < 2000 || c.refs < 1000 || c.gone < 200 || c.lit < 500 || c.turned < 200 {
		t.Errorf("met %+v", c)
	}
}

// P14.3: each two transactions of a Ref's keys, and of an Either's, that have their Form, seeing each other or not; behind a third one or not.
func TestEachTwo(t *testing.T) {
	catalogue := some(set("a"), set("b"), flag("f", 1), flag("g", 0), ref("a", "b"), either("f", "g"))
	single := ops(add("a", "x"), add("b", "x"), remove("a", "x"), remove("b", "x"), on("f"), on("g"), off("f"), off("g"))
	var lists [][]api.Op
	for mask := 1; mask < 256; mask++ {
		var list []api.Op
		for i, o := range single {
			if mask>>i&1 == 1 {
				list = append(list, o)
			}
		}
		if rule.Form(catalogue, 0, list) == api.OK {
			lists = append(lists, list)
		}
	}
	if len(lists) != 6*6-1 { // of each pair of keys: nothing, and five lists
		t.Errorf("%d lists have their Form: %v", len(lists), lists)
	}
	for _, x := range lists {
		for _, y := range lists {
			for name, l := range map[string]api.Logs{
				"neither sees the other":                story(by(0, x...), by(1, y...)),
				"one sees the other":                    story(by(0, x...), by(1, y...).seeing(1)),
				"in one log":                            story(by(0, x...), by(0, y...)),
				"behind an Add and an On":               story(by(2, add("a", "x"), add("b", "x"), off("f"), on("g")), by(0, x...).seeing(0, 0, 1), by(1, y...).seeing(0, 0, 1)),
				"beside an Add and an On":               story(by(2, add("a", "x"), add("b", "x"), off("f"), on("g")), by(0, x...).seeing(0, 0, 1), by(1, y...).seeing(1)),
				"behind another one, seeing not all":    story(by(2, remove("a", "x"), remove("b", "x"), off("g"), on("f")), by(0, x...).seeing(0, 0, 1), by(1, y...).seeing(1), by(0, x...).seeing(0, 1)),
				"behind another one, and on top of all": story(by(2, x...), by(0, x...).seeing(0, 0, 1), by(1, y...).seeing(1), by(3, y...).seeing(0, 1, 1)),
			} {
				for _, v := range closedCuts(l) {
					holds(t, fmt.Sprintf("%s: %v and %v", name, x, y), catalogue, l, v, true)
				}
			}
		}
	}
}

// P14.4: rules that may be hold at the empty cut, whatever the logs are.
func TestAtTheBeginning(t *testing.T) {
	for _, rules := range [][]api.Rule{nil, every(), counters(64), some(flag("a", 1), flag("b", 1), either("a", "b")), some(flag("a", 0), flag("b", 1), either("a", "b"), either("b", "a"))} {
		holds(t, "nothing happened", rules, api.Logs{}, api.Vector{}, true)
	}
	for _, least := range []int64{0, 1, -1, most, -most, most - 1} {
		holds(t, "a Bound at its least", some(bound("b", least, least)), api.Logs{}, api.Vector{}, true)
		holds(t, "a Bound above its least", some(bound("b", least, most)), api.Logs{}, api.Vector{}, true)
	}
	for _, r := range every()[2:] {
		holds(t, "each alone", some(r), api.Logs{}, api.Vector{}, true)
	}
	r := rand.New(rand.NewSource(2))
	for range 3000 {
		rules := goodRules(r, 10)
		holds(t, "by chance", rules, api.Logs{}, api.Vector{}, true)
		holds(t, "by chance", rules, anyLogs(r, rules, 8, 6), api.Vector{}, true)
	}
}
