package rule_test

import (
	"fmt"
	"math/rand"
	"slices"
	"strconv"
	"testing"
	"time"

	"levee/api"
	"levee/cut"
	"levee/txn"
)

// A moment is a cut of a story, and whether all rules hold there.
type moment struct {
	v    api.Vector
	want bool
}

// A tale is a story, and moments of it.
type tale struct {
	name    string
	rules   []api.Rule
	l       api.Logs
	moments []moment
}

// tell: of each tale each moment is as it tells; beside rules that hold always, too, and of other keys' rules whatever happens.
func tell(t *testing.T, tales []tale) {
	t.Helper()
	always := some(counter("z/1", 0), bound("z/2", -most, 0), set("z/3"), flag("z/4", 1), flag("z/5", 0), set("z/6"), ref("z/3", "z/6"), either("z/5", "z/4"), ids("z/7"), firm("z/8"), last("z/9"), multi("z/0"))
	for _, c := range tales {
		for _, m := range c.moments {
			holds(t, c.name, c.rules, c.l, m.v, m.want)
			holds(t, c.name+", behind others", append(slices.Clone(always), c.rules...), c.l, m.v, m.want)
			holds(t, c.name+", ahead of others", append(slices.Clone(c.rules), always...), c.l, m.v, m.want)
			holds(t, c.name+", of other keys", always, c.l, m.v, true)
		}
	}
}

// P14.1: a Bound's value isn't below Min: at the empty cut, in the middle and at the end.
func TestHoldsBound(t *testing.T) {
	l := story(by(0, dec("b", 2)), by(1, inc("b", 1), give("b", "0", 5)), by(0, dec("b", 3)).seeing(0, 1))
	for _, start := range []int64{0, 3, -7, most, -most + 9} {
		tell(t, []tale{
			{"down to the least", some(bound("b", start-2, start)), l, []moment{{api.Vector{}, true}, {api.Vector{1}, true}, {api.Vector{0, 1}, true}, {api.Vector{1, 1}, true}, {api.Vector{2, 1}, false}}},
			{"below it at once", some(bound("b", start-1, start)), l, []moment{{api.Vector{}, true}, {api.Vector{1}, false}, {api.Vector{0, 1}, true}, {api.Vector{1, 1}, true}, {api.Vector{2, 1}, false}}},
			{"never below", some(bound("b", start-4, start)), l, []moment{{api.Vector{}, true}, {api.Vector{1}, true}, {api.Vector{2, 1}, true}}},
			{"one more", some(bound("b", start-3, start)), l, []moment{{api.Vector{1}, true}, {api.Vector{2, 1}, false}}},
			{"two of which the second one is below", some(bound("a", 0, 0), bound("b", start-1, start)), l, []moment{{api.Vector{}, true}, {api.Vector{1}, false}}},
			{"a Counter may be any", some(counter("b", start)), l, []moment{{api.Vector{}, true}, {api.Vector{1}, true}, {api.Vector{2, 1}, true}}},
		})
	}
	far := story(by(0, slices.Repeat(ops(dec("b", most)), 8)...), by(0, slices.Repeat(ops(inc("b", most)), 8)...), by(0, dec("b", most)), by(0, dec("b", 1)))
	tell(t, []tale{{"far below, and back", some(bound("b", -most, 0)), far, []moment{{api.Vector{}, true}, {api.Vector{1}, false}, {api.Vector{2}, true}, {api.Vector{3}, true}, {api.Vector{4}, false}}}})
}

// P14.1: no element of Ids was added by two operations of the cut, whether one is still there or not.
func TestHoldsIds(t *testing.T) {
	rules := some(ids("i"))
	twice := func(first, second step) api.Logs { return story(by(5, add("i", "y")), first, second) }
	end := func(l api.Logs) []moment {
		return []moment{{api.Vector{}, true}, {api.Vector{5: 1}, true}, {cut.Size(l), false}}
	}
	var tales []tale
	for name, l := range map[string]api.Logs{
		"by two members":                   twice(by(0, add("i", "x")), by(1, add("i", "x"))),
		"by two that see each other":       twice(by(0, add("i", "x")), by(1, add("i", "x")).seeing(1)),
		"by one member":                    twice(by(0, add("i", "x")), by(0, add("i", "x"))),
		"in one transaction":               twice(by(0, add("i", "x"), add("i", "x")), by(0, inc("c", 1))),
		"in one transaction, far apart":    twice(by(0, add("i", "x"), add("i", "a"), remove("i", "b"), add("i", "x")), by(0, inc("c", 1))),
		"with a Remove between":            twice(by(0, add("i", "x")), by(1, remove("i", "x"), add("i", "x")).seeing(1)),
		"with a Remove behind":             twice(by(0, add("i", "x")), by(1, add("i", "x"), remove("i", "x")).seeing(1)),
		"with a Remove in each":            twice(by(0, add("i", "x"), remove("i", "x")), by(1, add("i", "x"), remove("i", "x")).seeing(1)),
		"an element of no byte":            twice(by(0, add("i", "")), by(1, add("i", ""))),
		"the first one of all, far behind": twice(by(7, add("i", "x")), by(7, add("i", "y"))),
	} {
		tales = append(tales, tale{name, rules, l, end(l)})
	}
	once := []moment{{api.Vector{}, true}, {api.Vector{1}, true}, {api.Vector{1, 1}, true}}
	tales = append(tales,
		tale{"two elements", rules, story(by(0, add("i", "x")), by(1, add("i", "y"))), once},
		tale{"an element and a longer one", rules, story(by(0, add("i", "x")), by(1, add("i", "xx"))), once},
		tale{"one Add and many Removes", rules, story(by(0, add("i", "x"), remove("i", "x"), remove("i", "x")), by(1, remove("i", "x"))), once},
		tale{"of two keys", append(rules, ids("j")), story(by(0, add("i", "x")), by(1, add("j", "x"))), once},
		tale{"of the second of two keys", append(rules, ids("j")), story(by(0, add("j", "x")), by(1, add("j", "x"))), []moment{{api.Vector{0, 1}, true}, {api.Vector{1, 1}, false}}},
		tale{"Writes", rules, story(by(0, write("i", "x"), write("i", "x")), by(1, write("i", "x"))), once},
		tale{"of a Set", some(set("i")), story(by(0, add("i", "x"), add("i", "x")), by(1, add("i", "x"))), once},
		tale{"of a Firm key", some(firm("i")), story(by(0, add("i", "x"), add("i", "x")), by(1, add("i", "x"))), once},
		tale{"beyond the cut", rules, story(by(0, add("i", "x")), by(0, add("i", "x")), by(1, inc("c", 1))), append(once, moment{api.Vector{2, 1}, false})},
	)
	tell(t, tales)
}

// P14.1: each element of a Ref's KEY is one of OTHER.
func TestHoldsRef(t *testing.T) {
	rules := some(ref("a", "b"), set("a"), set("b"))
	l := story(by(0, add("a", "x")), by(0, add("b", "x")), by(0, add("b", "y")), by(0, add("a", "y")), by(0, remove("b", "x")), by(0, remove("a", "x")), by(0, remove("b", "y")))
	var along []moment
	for n, want := range []bool{true, false, true, true, true, false, true, false} {
		along = append(along, moment{api.Vector{uint64(n)}, want})
	}
	back := slices.Clone(rules)
	back[0] = ref("b", "a")
	var against []moment
	for n, want := range []bool{true, true, true, false, true, true, true, true} {
		against = append(against, moment{api.Vector{uint64(n)}, want})
	}
	two := story(by(0, add("a", "x"), add("b", "x")), by(1, remove("b", "x"), remove("a", "x")).seeing(1), by(2, add("a", "x"), add("b", "x")), by(3, add("a", "y"), add("b", "x")))
	pairs := []moment{{api.Vector{}, true}, {api.Vector{1}, true}, {api.Vector{1, 1}, true}, {api.Vector{1, 1, 1}, true}, {api.Vector{0, 0, 1}, true}, {api.Vector{0, 0, 0, 1}, false}, {api.Vector{1, 1, 1, 1}, false}}
	many := story(by(0, add("a", ""), add("b", ""), add("a", "c"), add("b", "c"), add("b", "b"), add("a", "z"), add("b", "zz"), add("b", "z")), by(1, add("a", "m")), by(2, add("b", "m")))
	tell(t, []tale{
		{"along one log", rules, l, along},
		{"along one log, the other way round", back, l, against},
		{"both ways", append(back, ref("a", "b")), l, []moment{{api.Vector{}, true}, {api.Vector{1}, false}, {api.Vector{2}, true}, {api.Vector{3}, false}, {api.Vector{4}, true}, {api.Vector{5}, false}}},
		{"pairs", rules, two, pairs},
		{"many elements", rules, many, []moment{{api.Vector{1}, true}, {api.Vector{1, 1}, false}, {api.Vector{1, 0, 1}, true}, {api.Vector{1, 1, 1}, true}, {api.Vector{0, 1}, false}, {api.Vector{0, 1, 1}, true}}},
		{"two that don't see each other", rules, story(by(0, add("a", "x"), add("b", "x")), by(1, remove("b", "x"))), []moment{{api.Vector{0, 1}, true}, {api.Vector{1, 1}, true}}},
		{"without a Ref", rules[1:], l, []moment{{api.Vector{1}, true}, {api.Vector{7}, true}}},
	})
	row := some(set("a"), set("b"), set("c"), ref("a", "b"), ref("b", "c"))
	tell(t, []tale{
		{"a row", row, story(by(0, add("c", "x")), by(0, add("b", "x")), by(0, add("a", "x"))), []moment{{api.Vector{1}, true}, {api.Vector{2}, true}, {api.Vector{3}, true}}},
		{"a row, turned round", row, story(by(0, add("a", "x")), by(0, add("b", "x")), by(0, add("c", "x"))), []moment{{api.Vector{1}, false}, {api.Vector{2}, false}, {api.Vector{3}, true}}},
	})
}

// P14.1: one of an Either's two flags is on, or both are.
func TestHoldsEither(t *testing.T) {
	l := story(by(0, on("b")), by(0, off("a")), by(0, on("a")), by(0, off("b")), by(0, off("a")), by(0, on("b"), on("a")))
	for _, rules := range [][]api.Rule{some(flag("a", 1), flag("b", 0), either("a", "b")), some(either("b", "a"), flag("b", 0), flag("a", 1))} {
		var along []moment
		for n, want := range []bool{true, true, true, true, true, false, true} {
			along = append(along, moment{api.Vector{uint64(n)}, want})
		}
		tell(t, []tale{
			{"along one log", rules, l, along},
			{"off at once", rules, story(by(3, off("a"))), []moment{{api.Vector{}, true}, {api.Vector{3: 1}, false}}},
			{"off the one that is off", rules, story(by(3, off("b"))), []moment{{api.Vector{}, true}, {api.Vector{3: 1}, true}}},
			{"an Off of each that see none", rules, story(by(0, on("b")), by(1, off("a")).seeing(1), by(2, off("b")).seeing(1)), []moment{{api.Vector{1}, true}, {api.Vector{1, 1}, true}, {api.Vector{1, 0, 1}, true}, {api.Vector{1, 1, 1}, false}}},
			{"an On and an Off of each", rules, story(by(0, off("a"), on("b")), by(1, off("b"), on("a"))), []moment{{api.Vector{1}, true}, {api.Vector{0, 1}, true}, {api.Vector{1, 1}, true}}},
		})
	}
	starts := some(flag("a", 1), flag("b", 1), either("a", "b"))
	tell(t, []tale{
		{"both on at first", starts, story(by(0, off("a")), by(1, off("b"))), []moment{{api.Vector{}, true}, {api.Vector{1}, true}, {api.Vector{0, 1}, true}, {api.Vector{1, 1}, false}}},
		{"without an Either", starts[:2], story(by(0, off("a")), by(1, off("b"))), []moment{{api.Vector{1, 1}, true}}},
		{"two Eithers, of which one is held", append(starts, flag("c", 1), either("c", "b")), story(by(0, off("a")), by(1, off("b"))), []moment{{api.Vector{1}, true}, {api.Vector{0, 1}, true}, {api.Vector{1, 1}, false}}},
	})
}

// P14.1: rules of the other kinds hold whatever there is; no rules hold.
func TestHoldsOthers(t *testing.T) {
	l := story(by(0, dec("k", most), add("k", "x"), add("k", "x"), remove("k", "x"), write("k", "x"), off("k")), by(1, dec("k", most), write("k", "y"), on("k"), off("k"), add("k", "x")))
	for _, v := range closedCuts(l) {
		holds(t, "no rules", nil, l, v, true)
		holds(t, "no rules", some(), l, v, true)
		for _, r := range some(counter("k", -most), set("k"), firm("k"), last("k"), multi("k"), flag("k", 0), flag("k", 1)) {
			holds(t, "alone", some(r), l, v, true)
		}
		holds(t, "a Bound", some(bound("k", -most, 0)), l, v, v != api.Vector{1, 1})
		holds(t, "Ids", some(ids("k")), l, v, v[0] == 0)
	}
	holds(t, "nothing at all", nil, api.Logs{}, api.Vector{}, true)
}

// goodLogs: logs that may be, of the first five members; number 2 of each depends on number 1 of all.
func goodLogs() api.Logs {
	var l api.Logs
	for i := range 5 {
		l = by(i, add("set", "x"), add("set2", "x")).behind(l)
	}
	for i := range 5 {
		l = by(i, inc("counter", 1), dec("bound", 1)).seeing(1, 1, 1, 1, 1).behind(l)
	}
	return l
}

// A spoilt one: logs that may not be, and what chapter 9's Check says of them.
type spoiltOne struct {
	name string
	l    api.Logs
	err  api.Errno
}

// spoiltLogs: in each of the ways of chapter 9's Check, at the ends of the logs and within them.
func spoiltLogs() []spoiltOne {
	long := goodLogs()
	for range full + 1 {
		k := uint64(len(long[6]))
		long[6] = append(long[6], api.Txn{Origin: 6, Seq: k + 1, Stamp: k + 1, Deps: api.Vector{6: k}, Ops: ops(inc("a", 1))})
	}
	l := []spoiltOne{{"a log that is too long", long, api.ErrLong}}
	for _, f := range []struct {
		name  string
		spoil func(x *api.Txn)
		err   api.Errno
	}{
		{"no operation", func(x *api.Txn) { x.Ops = nil }, api.ErrTxn},
		{"an operation of no kind", func(x *api.Txn) { x.Ops[1].Kind = 9 }, api.ErrTxn},
		{"no stamp", func(x *api.Txn) { x.Stamp = 0 }, api.ErrTxn},
		{"another number", func(x *api.Txn) { x.Seq++; x.Deps[x.Origin]++ }, api.ErrTxn},
		{"an Origin that is none", func(x *api.Txn) { x.Origin = 8 }, api.ErrTxn},
		{"Deps beyond a log", func(x *api.Txn) { x.Deps[(x.Origin+1)%5] = 3 }, api.ErrGap},
		{"Deps of no log", func(x *api.Txn) { x.Deps[7] = top }, api.ErrGap},
		{"a stamp of its Deps", func(x *api.Txn) { x.Deps[(x.Origin+1)%5] = x.Seq }, api.ErrTxn},
	} {
		for _, at := range [][2]int{{0, 0}, {0, 1}, {2, 1}, {4, 1}} {
			l = append(l, spoiltOne{fmt.Sprint(f.name, " at ", at), changed(goodLogs(), at[0], at[1], f.spoil), f.err})
		}
	}
	return l
}

// P14.1: Holds' errors: rules that may not be, then logs that may not be, then cuts that aren't closed.
func TestHoldsErrors(t *testing.T) {
	closed := []api.Vector{{}, {1}, {0, 0, 1}, {1, 1, 1, 1, 1}, {2, 1, 1, 1, 1}, {2, 2, 2, 2, 2}}
	open := []api.Vector{{2}, {0, 2}, {2, 1, 1, 1}, {3, 2, 2, 2, 2}, {1, 1, 1, 1, 1, 1}, {7: 1}, all(top), {1 << 63}, {1 << 32}, {1<<32 + 1}}
	bad := map[string][]api.Rule{"a rule of nothing": make([]api.Rule, 1), "a Ref alone": some(ref("a", "b")), "one key twice": append(every(), last("set"))}
	for _, v := range closed {
		holds(t, "all is well", every(), goodLogs(), v, v != api.Vector{2, 2, 2, 2, 2})
	}
	for _, v := range open {
		refuses(t, "an open cut", every(), goodLogs(), v, api.ErrOpen)
		refuses(t, "an open cut, no rules", nil, goodLogs(), v, api.ErrOpen)
		refuses(t, "an open cut of nothing", every(), api.Logs{}, v, api.ErrOpen)
	}
	for _, v := range append(closed, open...) {
		for name, rules := range bad {
			refuses(t, name, rules, goodLogs(), v, api.ErrRule)
		}
		refuses(t, "too many rules", counters(65), goodLogs(), v, api.ErrFull)
	}
	for _, s := range spoiltLogs() {
		if err := cut.Check(s.l); err != s.err {
			t.Errorf("%s: Check says %v, not %v", s.name, err, s.err)
		}
		for _, v := range append(closed, open...) {
			refuses(t, s.name, every(), s.l, v, s.err)
			refuses(t, s.name+", no rules", nil, s.l, v, s.err)
		}
		refuses(t, s.name+", a rule of nothing", make([]api.Rule, 1), s.l, api.Vector{}, api.ErrRule)
		refuses(t, s.name+", too many rules", make([]api.Rule, 65), s.l, all(top), api.ErrFull)
	}
}

// anyLogs: logs that may be, of so many transactions, whose operations go by no Form.
func anyLogs(r *rand.Rand, rules []api.Rule, members, n int) api.Logs {
	var l api.Logs
	for range n {
		i, deps := r.Intn(members), someDeps(r, l)
		list := slices.DeleteFunc(someOps(r, rules, i), func(o api.Op) bool { return !txn.Op(o, i) || r.Intn(4) == 0 })
		if len(list) > 0 && len(list) <= 8 {
			l = by(i, list...).seeing(deps[:]...).behind(l)
		}
	}
	return l
}

// P14.1: Holds against the plain telling, at closed cuts and at open ones.
func TestHoldsAsTold(t *testing.T) {
	r := rand.New(rand.NewSource(1))
	held, not, met := map[int]int{}, map[int]int{}, map[api.Errno]int{}
	for range 10000 {
		rules := goodRules(r, 6)
		switch r.Intn(10) {
		case 0:
			rules = anyRules(r)
		case 1, 2, 3:
			rules = rulesOf(r, 3, api.Flag)
		}
		l := anyLogs(r, rules, 1+r.Intn(8), r.Intn(12))
		for _, v := range []api.Vector{{}, cut.Size(l), someCut(r, l), cut.Close(l, someCut(r, l)), cut.Close(l, someCut(r, l))} {
			want, err := plainHolds(rules, l, v)
			met[err]++
			if err != api.OK {
				refuses(t, "by chance", rules, l, v, err)
				continue
			}
			holds(t, "by chance", rules, l, v, want)
			for _, x := range rules {
				if plainHeld(rules, x, l, v) {
					held[x.Kind]++
				} else {
					not[x.Kind]++
				}
			}
		}
		if t.Failed() {
			t.Fatalf("of %+v", l)
		}
	}
	for _, kind := range []int{api.Bound, api.Ids, api.Ref, api.Either} {
		if held[kind] < 200 || not[kind] < 100 {
			t.Errorf("kind %d: %d times held, %d times not", kind, held[kind], not[kind])
		}
	}
	if met[api.OK] < 5000 || met[api.ErrRule] < 500 || met[api.ErrOpen] < 500 {
		t.Errorf("met %v", met)
	}
}

// P14.1: full logs and catalogues are answered, and soon.
func TestHoldsFull(t *testing.T) {
	var l api.Logs
	for k := range uint64(full) {
		for i := range l {
			x := api.Txn{Origin: i, Seq: k + 1, Stamp: k + 1, Deps: all(k)}
			for n := range 8 {
				x.Ops = append(x.Ops, add("k"+strconv.Itoa(n/4), strconv.Itoa(int(k)*32+i*4+n%4)))
			}
			l[i] = append(l[i], x)
		}
	}
	begin := time.Now()
	rules := some(set("k0"), set("k1"))
	for range 31 {
		rules = append(rules, ref("k0", "k1"), ref("k1", "k0"))
	}
	holds(t, "full", rules, l, all(full), true)
	for i := range rules {
		rules[i] = ids("k" + strconv.Itoa(i))
	}
	holds(t, "full", rules, l, all(full), true)
	for i := range rules {
		rules[i] = bound("k"+strconv.Itoa(i), 0, 0)
	}
	holds(t, "full", rules, l, all(full), true)
	if spent := time.Since(begin); spent > 20*time.Second {
		t.Errorf("it took %v", spent)
	}
}
