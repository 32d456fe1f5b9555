package rule_test

import (
	"fmt"
	"math"
	"math/rand"
	"slices"
	"strings"
	"testing"

	"levee/api"
	"levee/rule"
	"levee/txn"
)

// wrongKinds are none of the ten, though some are one where a number is cut off.
func wrongKinds() []int {
	return []int{0, -1, -3, -10, 11, 12, 13, 255, 256, 257, 266, 1<<16 + 3, 1 << 32, 1<<32 + 1, 1<<32 + 3, -1<<32 + 3, math.MaxInt, math.MinInt, math.MinInt + 3}
}

// wrongKeys are no keys.
func wrongKeys() []string {
	return []string{"", " ", "A", "a b", "a ", " a", "a\n", "a.b", "a-b", "_", "é", "\x00", "a\xff", "#", strings.Repeat("a", 33), strings.Repeat("a", 100000)}
}

// beyond: numbers of a magnitude of more than 2^40.
func beyond() []int64 {
	return []int64{most + 1, -most - 1, 1 << 41, -1 << 41, 1<<63 - 1, -1 << 63, -1<<63 + 1, 1 << 62}
}

// with: the rules with one more at the place.
func with(rules []api.Rule, place int, r api.Rule) []api.Rule {
	return slices.Insert(slices.Clone(rules), place, r)
}

// spoilt: the rules, in which f has changed the one at the place.
func spoilt(rules []api.Rule, place int, f func(r *api.Rule)) []api.Rule {
	rules = slices.Clone(rules)
	f(&rules[place])
	return rules
}

// counters: n rules that may be, of keys of their own.
func counters(n int) []api.Rule {
	var rules []api.Rule
	for i := range n {
		rules = append(rules, counter("c"+rule.Text(int64(i)), int64(i)))
	}
	return rules
}

// P14.1: rules that may be: none, one of each kind, all kinds, in any order.
func TestMayBe(t *testing.T) {
	checks(t, "none", nil, api.OK)
	checks(t, "none", some(), api.OK)
	for _, r := range every() {
		want := api.OK
		if r.Kind == api.Ref || r.Kind == api.Either {
			want = api.ErrRule
		}
		checks(t, "alone", some(r), want)
		if want == api.OK {
			r.Key = strings.Repeat("9/z", 11)[:32]
			checks(t, "alone, with a long key", some(r), want)
			r.Key += "a"
			checks(t, "alone, with a key that is too long", some(r), api.ErrRule)
		}
	}
	checks(t, "each", every(), api.OK)
	rules, r := every(), rand.New(rand.NewSource(1))
	for range 200 {
		r.Shuffle(len(rules), func(i, j int) { rules[i], rules[j] = rules[j], rules[i] })
		checks(t, "in some order", rules, api.OK)
	}
}

// P14.1: 64 rules are taken and 65 refused, ahead of one that may not be.
func TestFullCatalogue(t *testing.T) {
	checks(t, "63", counters(63), api.OK)
	checks(t, "64", counters(64), api.OK)
	checks(t, "65", counters(65), api.ErrFull)
	checks(t, "1000", counters(1000), api.ErrFull)
	checks(t, "64, the last one a Ref", append(counters(62), set("a"), ref("a", "c0")), api.ErrRule)
	checks(t, "64, the last one a Ref", append(counters(61), set("a"), set("b"), ref("a", "b")), api.OK)
	checks(t, "65, the last one a Ref", append(counters(62), set("a"), set("b"), ref("a", "b")), api.ErrFull)
	for place := range 64 {
		bad := spoilt(counters(64), place, func(r *api.Rule) { r.Key = "" })
		checks(t, fmt.Sprint("64, one may not be: ", place), bad, api.ErrRule)
		checks(t, fmt.Sprint("65, one may not be: ", place), append(bad, counter("z", 0)), api.ErrFull)
		again := spoilt(counters(64), place, func(r *api.Rule) { r.Key = fmt.Sprint("c", (place+7)%64) })
		checks(t, fmt.Sprint("64, one is of another's key: ", place), again, api.ErrRule)
	}
	checks(t, "65 of nothing", make([]api.Rule, 65), api.ErrFull)
	checks(t, "64 of nothing", make([]api.Rule, 64), api.ErrRule)
}

// P14.1: of each kind: a kind that is none, and a key that is none, at any place.
func TestNoKindNoKey(t *testing.T) {
	for place, r := range every() {
		for _, kind := range wrongKinds() {
			rules := spoilt(every(), place, func(r *api.Rule) { r.Kind = kind })
			checks(t, fmt.Sprintf("kind %d for %d", kind, r.Kind), rules, api.ErrRule)
			bare := api.Rule{Kind: kind, Key: "k"}
			checks(t, fmt.Sprintf("kind %d beside all", kind), with(every(), place, bare), api.ErrRule)
			checks(t, fmt.Sprintf("kind %d alone", kind), some(bare), api.ErrRule)
		}
		for _, key := range wrongKeys() {
			rules := spoilt(every(), place, func(r *api.Rule) { r.Key = key })
			checks(t, fmt.Sprintf("key %.40q of kind %d", key, r.Kind), rules, api.ErrRule)
			checks(t, fmt.Sprintf("key %.40q beside all", key), with(every(), place, set(key)), api.ErrRule)
		}
	}
	checks(t, "a rule of nothing", some(api.Rule{}), api.ErrRule)
	for _, key := range wrongKeys() {
		checks(t, "a Ref to a key that is none", some(set("a"), set(key), ref("a", key)), api.ErrRule)
		checks(t, "a Ref to a key that is none", some(set("a"), ref("a", key)), api.ErrRule)
		checks(t, "an Either of a key that is none", some(flag("a", 1), flag(key, 1), either(key, "a")), api.ErrRule)
	}
}

// P14.1: Min and Start at 2^40 and beyond.
func TestAmounts(t *testing.T) {
	for _, n := range []int64{most, -most, most - 1, 1 - most, 0, 1, -1} {
		checks(t, fmt.Sprint("from ", n), some(counter("a", n)), api.OK)
		checks(t, fmt.Sprint("from ", n), some(bound("a", -most, n)), api.OK)
		checks(t, fmt.Sprint("not below ", n), some(bound("a", n, most)), api.OK)
		checks(t, fmt.Sprint("at its least ", n), some(bound("a", n, n)), api.OK)
	}
	for _, n := range beyond() {
		checks(t, fmt.Sprint("from ", n), some(counter("a", n)), api.ErrRule)
		checks(t, fmt.Sprint("from ", n), some(bound("a", 0, n)), api.ErrRule)
		checks(t, fmt.Sprint("from ", n), some(bound("a", -most, n)), api.ErrRule)
		checks(t, fmt.Sprint("from ", n), some(flag("a", n)), api.ErrRule)
		checks(t, fmt.Sprint("not below ", n), some(bound("a", n, 0)), api.ErrRule)
		checks(t, fmt.Sprint("not below ", n), some(bound("a", n, most)), api.ErrRule)
		checks(t, fmt.Sprint("at its least ", n), some(bound("a", n, n)), api.ErrRule)
	}
}

// P14.1: a field that the kind's line doesn't name is nought, of each kind.
func TestOtherFields(t *testing.T) {
	named := map[int]string{api.Counter: "start", api.Bound: "min start", api.Flag: "start", api.Ref: "other", api.Either: "other"}
	for place, r := range every() {
		for _, n := range []int64{1, -1, 2, most, -most} {
			if !strings.Contains(named[r.Kind], "start") {
				checks(t, fmt.Sprintf("Start %d of kind %d", n, r.Kind), spoilt(every(), place, func(r *api.Rule) { r.Start = n }), api.ErrRule)
			}
			if !strings.Contains(named[r.Kind], "min") {
				checks(t, fmt.Sprintf("Min %d of kind %d", n, r.Kind), spoilt(every(), place, func(r *api.Rule) { r.Min = n }), api.ErrRule)
			}
		}
		for _, s := range []string{"set", "flag", "a", " ", "\x00", r.Key} {
			if !strings.Contains(named[r.Kind], "other") {
				checks(t, fmt.Sprintf("Other %q of kind %d", s, r.Kind), spoilt(every(), place, func(r *api.Rule) { r.Other = s }), api.ErrRule)
			}
		}
	}
}

// P14.1: a Bound's Start isn't below Min; a Flag's is 0 or 1.
func TestStarts(t *testing.T) {
	for _, least := range []int64{0, 1, -1, 5, -5, most, 1 - most} {
		checks(t, "at the least", some(bound("b", least, least)), api.OK)
		checks(t, "one below it", some(bound("b", least, least-1)), api.ErrRule)
		checks(t, "far below it", some(bound("b", least, -most)), api.ErrRule)
		if least < most {
			checks(t, "one above it", some(bound("b", least, least+1)), api.OK)
			checks(t, "the other way round", some(bound("b", least+1, least)), api.ErrRule)
		}
	}
	checks(t, "the whole way", some(bound("b", -most, most)), api.OK)
	checks(t, "the whole way down", some(bound("b", most, -most)), api.ErrRule)
	for _, start := range []int64{-1, -2, 2, 3, 255, 256, 257, 1 << 32, 1<<32 + 1, most, -most} {
		checks(t, fmt.Sprint("a Flag from ", start), some(flag("f", start)), api.ErrRule)
		checks(t, fmt.Sprint("a Flag of an Either, from ", start), some(flag("f", start), flag("g", 1), either("f", "g")), api.ErrRule)
		checks(t, fmt.Sprint("a Counter from ", start), some(counter("f", start)), api.OK)
	}
	checks(t, "off", some(flag("f", 0)), api.OK)
	checks(t, "on", some(flag("f", 1)), api.OK)
}

// P14.1: of the kinds 1 to 8 a rule is the only one of its key, whatever kinds and starts the two are of.
func TestOneKeyTwice(t *testing.T) {
	for _, a := range every() {
		for _, b := range every() {
			if a.Kind > api.Ids || b.Kind > api.Ids {
				continue
			}
			a.Key, b.Key = "k", "k"
			checks(t, fmt.Sprintf("kinds %d and %d of one key", a.Kind, b.Kind), some(a, b), api.ErrRule)
			checks(t, fmt.Sprintf("kinds %d and %d of one key, others between", a.Kind, b.Kind), append(append(some(a), every()...), b), api.ErrRule)
			b.Key = "k/"
			checks(t, fmt.Sprintf("kinds %d and %d of two keys", a.Kind, b.Kind), some(a, b), api.OK)
		}
	}
	checks(t, "two Refs of one key", some(set("a"), set("b"), set("c"), ref("a", "b"), ref("a", "c")), api.OK)
	checks(t, "the same Ref twice", some(set("a"), set("b"), ref("a", "b"), ref("a", "b")), api.OK)
	checks(t, "a Ref there and one back", some(set("a"), set("b"), ref("a", "b"), ref("b", "a")), api.OK)
	checks(t, "the same Either twice", some(flag("a", 1), flag("b", 0), either("a", "b"), either("a", "b"), either("b", "a")), api.OK)
	checks(t, "a key behind its Ref", some(ref("a", "b"), set("b"), set("a")), api.OK)
}

// P14.1: a Ref's keys are unlike ones of Set rules, an Either's of Flag rules.
func TestPairs(t *testing.T) {
	for _, c := range []struct {
		make func(key, other string) api.Rule
		kind int
		a, b api.Rule
	}{{ref, api.Set, set("a"), set("b")}, {either, api.Flag, flag("a", 1), flag("b", 1)}} {
		a, b, pair := c.a, c.b, c.make("a", "b")
		checks(t, "behind both", some(a, b, pair), api.OK)
		checks(t, "behind both", some(b, a, pair), api.OK)
		checks(t, "between", some(a, pair, b), api.OK)
		checks(t, "between", some(b, pair, a), api.OK)
		checks(t, "ahead of both", some(pair, a, b), api.OK)
		checks(t, "both alike", some(a, b, c.make("a", "a")), api.ErrRule)
		checks(t, "both alike, one missing", some(b, c.make("a", "a")), api.ErrRule)
		checks(t, "the first one missing", some(b, pair), api.ErrRule)
		checks(t, "the second one missing", some(a, pair), api.ErrRule)
		checks(t, "both missing", some(pair), api.ErrRule)
		checks(t, "no second one", some(a, b, c.make("a", "")), api.ErrRule)
		checks(t, "no first one", some(a, b, c.make("", "a")), api.ErrRule)
		checks(t, "a longer one", some(a, b, c.make("a", "bb")), api.ErrRule)
		checks(t, "a shorter one", some(a, api.Rule{Kind: b.Kind, Key: "bb", Start: b.Start}, pair), api.ErrRule)
		checks(t, "none but itself", some(pair, c.make("b", "a")), api.ErrRule)
		for _, x := range every() {
			if x.Kind == c.kind {
				continue
			}
			x.Key = "b"
			checks(t, fmt.Sprintf("the second one is of kind %d", x.Kind), some(set("set2"), flag("flag2", 1), a, x, pair), api.ErrRule)
			x.Key = "a"
			checks(t, fmt.Sprintf("the first one is of kind %d", x.Kind), some(set("set2"), flag("flag2", 1), x, b, pair), api.ErrRule)
		}
	}
	checks(t, "a Ref of flags", some(flag("a", 1), flag("b", 1), ref("a", "b")), api.ErrRule)
	checks(t, "an Either of sets", some(set("a"), set("b"), either("a", "b")), api.ErrRule)
}

// P14.1: of an Either's flags one, or both, has Start 1.
func TestEitherStarts(t *testing.T) {
	for a := range int64(2) {
		for b := range int64(2) {
			want := api.OK
			if a+b == 0 {
				want = api.ErrRule
			}
			name := fmt.Sprintf("from %d and %d", a, b)
			checks(t, name, some(flag("a", a), flag("b", b), either("a", "b")), want)
			checks(t, name, some(either("b", "a"), flag("a", a), flag("b", b)), want)
			checks(t, name+", beside others", append(every(), flag("a", a), flag("b", b), flag("c", 1), either("b", "a")), want)
			checks(t, name+", without an Either", some(flag("a", a), flag("b", b)), api.OK)
		}
	}
	checks(t, "a row, one between", some(flag("a", 0), flag("b", 1), flag("c", 0), either("a", "b"), either("b", "c")), api.OK)
	checks(t, "a row, one at the end", some(flag("a", 1), flag("b", 0), flag("c", 0), either("a", "b"), either("b", "c")), api.ErrRule)
}

// P14.1: Check against the plain telling.
func TestCheckAsTold(t *testing.T) {
	r := rand.New(rand.NewSource(2))
	met := map[api.Errno]int{}
	for range 30000 {
		rules := anyRules(r)
		want := plainCheck(rules)
		met[want]++
		checks(t, "by chance", rules, want)
		if t.Failed() {
			t.FailNow()
		}
	}
	if met[api.OK] < 3000 || met[api.ErrRule] < 3000 {
		t.Errorf("met %v", met)
	}
}

// P14.1: Find: the first one of the kinds 1 to 8 with that key, of any rules.
func TestFind(t *testing.T) {
	finds := func(name string, rules []api.Rule, key string, want int) {
		t.Helper()
		if got := rule.Find(rules, key); got != want {
			t.Errorf("%s: Find of %q in %v: %d, want %d", name, key, rules, got, want)
		}
	}
	finds("no rules", nil, "a", -1)
	finds("no rules", nil, "", -1)
	finds("one", some(set("a")), "a", 0)
	finds("another one", some(set("a")), "b", -1)
	finds("none", some(set("a")), "", -1)
	finds("a longer one", some(set("a")), "aa", -1)
	finds("the first of two", some(set("b"), counter("a", 1), flag("a", 7), set("a")), "a", 1)
	finds("a Ref ahead", some(ref("a", "b"), set("a"), set("b")), "a", 1)
	finds("an Either ahead", some(either("a", "b"), either("b", "a"), flag("a", 0)), "a", 2)
	finds("a Ref alone", some(ref("a", "b")), "a", -1)
	finds("a Ref's other one", some(ref("a", "b")), "b", -1)
	finds("an Either alone", some(either("a", "b")), "a", -1)
	finds("a key that is none", some(set("A b")), "A b", 0)
	finds("nothing", some(set("a"), set("")), "", 1)
	finds("fields that may not be", some(api.Rule{Kind: api.Ids, Key: "a", Other: "x", Min: 1 << 60, Start: -1}), "a", 0)
	finds("far behind", append(counters(1000), set("a")), "a", 1000)
	finds("far behind", counters(1000), "c999", 999)
	for i, r := range every() {
		want := i
		switch r.Kind {
		case api.Ref:
			want = 4
		case api.Either:
			want = 8
		}
		finds("each", every(), r.Key, want)
	}
	for _, kind := range append(wrongKinds(), api.Ref, api.Either) {
		finds(fmt.Sprint("kind ", kind), some(api.Rule{Kind: kind, Key: "a"}), "a", -1)
		finds(fmt.Sprint("kind ", kind, " ahead"), some(api.Rule{Kind: kind, Key: "a"}, last("a")), "a", 1)
	}
}

// P14.1: the rules that the tests go out from are such that may be.
func TestPool(t *testing.T) {
	for _, key := range pool() {
		if !txn.Key(key) {
			t.Errorf("%q is no key", key)
		}
	}
	r, kinds := rand.New(rand.NewSource(3)), map[int]int{}
	for range 2000 {
		rules := goodRules(r, 10)
		checks(t, "good ones", rules, api.OK)
		for _, x := range rules {
			kinds[x.Kind]++
		}
	}
	for kind := api.Counter; kind <= api.Either; kind++ {
		if kinds[kind] < 300 {
			t.Errorf("kind %d: %d", kind, kinds[kind])
		}
	}
}
