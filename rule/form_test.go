package rule_test

import (
	"fmt"
	"math"
	"math/rand"
	"slices"
	"strings"
	"testing"

	"levee/api"
	"levee/rule"
)

// plain: a catalogue with a rule of each kind of keys, whose keys are the kinds' words, without Refs and Eithers.
func plain() []api.Rule { return every()[2:] }

// opOf: an operation of a kind on a key that may be any member's.
func opOf(kind int, key string) api.Op {
	o := api.Op{Kind: kind, Key: key}
	switch kind {
	case api.Inc, api.Dec:
		o.N = 1
	case api.Give:
		o.N, o.Elem = 1, "5"
	case api.Add, api.Remove, api.Write:
		o.Elem = "3"
	}
	return o
}

// P14.1: each kind of keys with each kind of operations: it fits, or it doesn't.
func TestFits(t *testing.T) {
	met := 0
	for _, r := range plain() {
		for kind := api.Inc; kind <= api.Off; kind++ {
			want := api.ErrKind
			if slices.Contains(fitting[r.Kind], kind) {
				want = api.OK
				met++
			}
			name := fmt.Sprintf("kind %d on kind %d", kind, r.Kind)
			forms(t, name, plain(), 3, ops(opOf(kind, r.Key)), want)
			forms(t, name, some(r), 3, ops(opOf(kind, r.Key)), want)
			forms(t, name+", behind another one", plain(), 3, ops(write("last", "x"), opOf(kind, r.Key)), want)
		}
	}
	if met != 2+3+2+2+1+1+2+2+2+2 {
		t.Errorf("%d fit", met)
	}
	for _, c := range []struct {
		text string
		fits []api.Op
	}{
		{"counter k 0", ops(inc("k", 1), dec("k", most))},
		{"bound k 0 0", ops(inc("k", most), dec("k", 1), give("k", "7", 1))},
		{"set k", ops(add("k", ""), remove("k", "y"))},
		{"firm k", ops(add("k", "x"), remove("k", ""))},
		{"last k", ops(write("k", "x"), write("k", ""))},
		{"multi k", ops(write("k", "x"), write("k", "y"))},
		{"flag k 0", ops(on("k"))},
		{"flag k 1", ops(off("k"))},
		{"ids k", ops(add("k", "11"), remove("k", "x"))},
	} {
		rules, _, _ := rule.Parse(c.text)
		for _, o := range c.fits {
			forms(t, c.text, rules, 3, ops(o), api.OK)
		}
		forms(t, c.text, rules, 3, c.fits, api.OK)
	}
}

// P14.1: a key without a rule; a Ref's or an Either's key is one of other rules.
func TestNoRule(t *testing.T) {
	for kind := api.Inc; kind <= api.Off; kind++ {
		for _, key := range []string{"k", "se", "sett", "set3", "ref", "either"} {
			forms(t, "a key without a rule", every(), 3, ops(opOf(kind, key)), api.ErrRule)
			forms(t, "a key without a rule, behind another one", every(), 3, ops(write("last", "x"), opOf(kind, key)), api.ErrRule)
		}
		forms(t, "no rules", nil, 3, ops(opOf(kind, "k")), api.ErrRule)
	}
}

// A wrong one is an error's case: rules, a member and operations.
type wrong struct {
	name   string
	rules  []api.Rule
	member int
	l      []api.Op
	err    api.Errno
}

// P14.1: each of Form's errors is behind those that the chapter names ahead of it.
func TestFormOrder(t *testing.T) {
	good := ops(inc("counter", 1), write("last", "x"))
	for _, c := range []wrong{
		{"all is well", every(), 0, good, api.OK},
		{"too many rules", counters(65), 0, good, api.ErrFull},
		{"too many rules, no member", counters(65), 8, good, api.ErrFull},
		{"too many rules, no operation", counters(65), 0, nil, api.ErrFull},
		{"too many rules, one that may not be", spoilt(counters(65), 0, func(r *api.Rule) { r.Key = "" }), 0, good, api.ErrFull},
		{"a rule that may not be", append(every(), set("A")), 0, good, api.ErrRule},
		{"a rule that may not be, no member", append(every(), set("A")), -1, good, api.ErrRule},
		{"a rule that may not be, no operation", append(every(), set("A")), 0, nil, api.ErrRule},
		{"a rule that may not be, an operation that may not be", append(every(), set("A")), 0, ops(api.Op{}), api.ErrRule},
		{"a rule that may not be, an operation that doesn't fit", append(every(), set("A")), 0, ops(on("set")), api.ErrRule},
		{"a rule that may not be, something owed", append(every(), set("A")), 0, ops(add("set", "x")), api.ErrRule},
		{"no member, a key without a rule", every(), 8, ops(inc("k", 1)), api.ErrTxn},
		{"no member, no fit", every(), -1, ops(on("set")), api.ErrTxn},
		{"no member, something owed", every(), 9, ops(add("set", "x")), api.ErrTxn},
		{"no operation, no rules", nil, 0, nil, api.ErrTxn},
		{"one that may not be, behind a key without a rule", every(), 0, ops(inc("k", 1), inc("counter", 0)), api.ErrTxn},
		{"one that may not be, behind one that doesn't fit", every(), 0, ops(on("set"), inc("counter", 0)), api.ErrTxn},
		{"one that may not be, behind something owed", every(), 0, ops(add("set", "x"), inc("counter", 0)), api.ErrTxn},
		{"one that may not be, of a key without a rule", every(), 0, ops(inc("k", 0)), api.ErrTxn},
		{"nine, of which one has no rule", every(), 0, slices.Repeat(ops(inc("k", 1)), 9), api.ErrTxn},
		{"nine that owe something", every(), 0, slices.Repeat(ops(add("set", "x")), 9), api.ErrTxn},
		{"no rule, then no fit", every(), 0, ops(inc("k", 1), on("set")), api.ErrRule},
		{"no fit, then no rule", every(), 0, ops(on("set"), inc("k", 1)), api.ErrKind},
		{"well, then no rule, then no fit", every(), 0, ops(good[0], inc("k", 1), good[1], on("set")), api.ErrRule},
		{"well, then no fit, then no rule", every(), 0, ops(good[0], on("set"), good[1], inc("k", 1)), api.ErrKind},
		{"something owed, then no rule", every(), 0, ops(add("set", "x"), inc("k", 1)), api.ErrRule},
		{"something owed, then no fit", every(), 0, ops(add("set", "x"), on("set")), api.ErrKind},
		{"no fit, then something owed", every(), 0, ops(on("set"), add("set", "x")), api.ErrKind},
		{"another's identifier, then no rule", every(), 0, ops(add("ids", "1"), inc("k", 1)), api.ErrRule},
		{"an Add and a Remove, then no fit", every(), 0, ops(add("set2", "x"), remove("set2", "x"), inc("flag", 1)), api.ErrKind},
		{"something owed, then well", every(), 0, ops(add("set", "x"), good[0]), api.ErrForm},
		{"well, then something owed", every(), 0, ops(good[0], good[1], add("set", "x")), api.ErrForm},
		{"eight, the last one owes something", every(), 0, append(slices.Repeat(good[:1], 7), add("set", "x")), api.ErrForm},
	} {
		forms(t, c.name, c.rules, c.member, c.l, c.err)
	}
}

// P14.1: a member that is none, no operation, more than 8, one that may not be.
func TestFormOfNone(t *testing.T) {
	for member := range 8 {
		forms(t, "a member", every(), member, ops(inc("counter", 1)), api.OK)
		forms(t, "no operation", every(), member, nil, api.ErrTxn)
		forms(t, "no operation", every(), member, ops(), api.ErrTxn)
		forms(t, "a Give", every(), member, ops(give("bound", string(rune('0'+(member+1)%8)), 1)), api.OK)
		forms(t, "a Give to itself", every(), member, ops(give("bound", string(rune('0'+member)), 1)), api.ErrTxn)
	}
	for _, member := range []int{-1, 8, 9, -8, 255, 256, 257, 1 << 32, 1<<32 + 1, math.MaxInt, math.MinInt} {
		forms(t, "no member", every(), member, ops(inc("counter", 1)), api.ErrTxn)
	}
	for n := 1; n < 12; n++ {
		want := api.OK
		if n > 8 {
			want = api.ErrTxn
		}
		forms(t, fmt.Sprint(n, " operations"), every(), 0, slices.Repeat(ops(inc("counter", 1)), n), want)
	}
	forms(t, "very many", every(), 0, make([]api.Op, 100000), api.ErrTxn)
	for _, o := range []api.Op{
		{}, {Key: "counter"}, {Kind: 9, Key: "counter"}, {Kind: -1, Key: "counter"}, {Kind: 1<<32 + 1, Key: "counter", N: 1},
		inc("counter", 0), inc("counter", -1), inc("counter", most+1), {Kind: api.Inc, Key: "counter", Elem: "x", N: 1}, dec("counter", 0), dec("counter", math.MinInt64),
		inc("", 1), inc("A", 1), inc("counter ", 1), inc(strings.Repeat("a", 33), 1),
		give("bound", "8", 1), give("bound", "", 1), give("bound", "1", 0), give("bound", "01", 1), give("bound", "3", 1),
		{Kind: api.Add, Key: "set2", Elem: "x", N: 1}, add("set2", strings.Repeat("x", 33)), remove("firm", strings.Repeat("x", 33)), {Kind: api.Remove, Key: "firm", N: -1}, {Kind: api.Write, Key: "last", N: 1},
		{Kind: api.On, Key: "flag", Elem: "-"}, {Kind: api.On, Key: "flag", N: 1}, {Kind: api.Off, Key: "flag", Elem: "x"},
	} {
		for n := range 8 {
			l := slices.Repeat(ops(inc("counter", 1)), 8)
			l[n] = o
			forms(t, "one that may not be", every(), 3, l, api.ErrTxn)
			forms(t, "one that may not be", every(), 3, l[n:n+1], api.ErrTxn)
		}
	}
	for _, o := range ops(inc("counter", most), give("bound", "4", most), add("set2", strings.Repeat("x", 32)), write("last", "\x00\xff")) {
		forms(t, "one that may just be", every(), 3, ops(o), api.OK)
	}
}

// both: the operations in this order, and turned round.
func both(t *testing.T, name string, rules []api.Rule, member int, l []api.Op, want api.Errno) {
	t.Helper()
	forms(t, name, rules, member, l, want)
	back := slices.Clone(l)
	slices.Reverse(back)
	forms(t, name+", turned round", rules, member, back, want)
	other := inc("between", 1)
	rules = append(slices.Clone(rules), counter("between", 0))
	for place := range l {
		if len(l) < 8 {
			forms(t, name+", another one between", rules, member, slices.Insert(slices.Clone(l), place, other), want)
		}
	}
}

// P14.1: no Add and Remove of one element of one key, no On and Off of one key.
func TestOpposites(t *testing.T) {
	rules := some(set("s"), set("s2"), firm("f"), ids("i"), ids("i2"), flag("a", 1), flag("b", 0))
	for _, key := range []string{"s", "f", "i"} {
		both(t, "of one element", rules, 0, ops(add(key, "8"), remove(key, "8")), api.ErrForm)
		both(t, "of two elements", rules, 0, ops(add(key, "8"), remove(key, "9")), api.OK)
		both(t, "of two elements", rules, 0, ops(add(key, "8"), remove(key, "")), api.OK)
		both(t, "of an element and a longer one", rules, 0, ops(add(key, "8"), remove(key, "80")), api.OK)
		both(t, "Adds alone", rules, 0, ops(add(key, "8"), add(key, "8")), api.OK)
		both(t, "Removes alone", rules, 0, ops(remove(key, "8"), remove(key, "8")), api.OK)
		both(t, "of one element, and others", rules, 0, ops(add(key, "0"), add(key, "8"), remove(key, "1"), remove(key, "8"), add(key, "16")), api.ErrForm)
		both(t, "of two elements, and others", rules, 0, ops(add(key, "0"), add(key, "8"), remove(key, "1"), remove(key, "9"), add(key, "16")), api.OK)
	}
	both(t, "of no byte", rules, 0, ops(add("s", ""), remove("s", "")), api.ErrForm)
	both(t, "of two keys", rules, 0, ops(add("s", "8"), remove("s2", "8")), api.OK)
	both(t, "of two keys of two kinds", rules, 0, ops(add("s", "8"), remove("f", "8"), add("i", "8"), remove("i2", "8")), api.OK)
	both(t, "on and off", rules, 0, ops(on("a"), off("a")), api.ErrForm)
	both(t, "on and off, others between", rules, 0, ops(on("a"), on("b"), add("s", "x"), off("a")), api.ErrForm)
	both(t, "one on, one off", rules, 0, ops(on("a"), off("b")), api.OK)
	both(t, "one on, one off", rules, 0, ops(off("a"), on("b")), api.OK)
	both(t, "on twice", rules, 0, ops(on("a"), on("a")), api.OK)
	both(t, "off twice", rules, 0, ops(off("a"), off("a")), api.OK)
	both(t, "both off", rules, 0, ops(off("a"), off("b")), api.OK)
	both(t, "up and down", some(counter("k", 0)), 0, ops(inc("k", 1), dec("k", 1)), api.OK)
	both(t, "written twice", some(last("k")), 0, ops(write("k", "x"), write("k", "x")), api.OK)
}

// P14.1: an Add to Ids is of an identifier of the member's; to other keys, and in a Remove, an element may be any.
func TestIdentifiers(t *testing.T) {
	rules := some(ids("i"), set("s"), firm("f"), last("l"))
	asks := func(member int, e string, want api.Errno) {
		t.Helper()
		name := fmt.Sprintf("%.40q of member %d", e, member)
		both(t, name, rules, member, ops(add("i", e)), want)
		both(t, name+", behind its own", rules, member, ops(add("i", rule.Text(int64(member))), add("i", e)), want)
		forms(t, name+", taken out", rules, member, ops(remove("i", e)), api.OK)
		forms(t, name+", elsewhere", rules, member, ops(add("s", e), add("f", e), write("l", e)), api.OK)
	}
	for member := range 8 {
		for n := range int64(40) {
			want := api.ErrForm
			if int(n)%8 == member {
				want = api.OK
			}
			asks(member, rule.Text(n), want)
			asks(member, rule.Text(n+8000000), want)
			asks(member, rule.Text(n+most-40), want)
			if n > 0 {
				asks(member, rule.Text(-n), api.ErrForm)
				asks(member, rule.Text(-most+n), api.ErrForm)
			}
			asks(member, "0"+rule.Text(n), api.ErrForm)
			asks(member, "+"+rule.Text(n), api.ErrForm)
			asks(member, " "+rule.Text(n), api.ErrForm)
			asks(member, rule.Text(n)+" ", api.ErrForm)
			asks(member, rule.Text(n+most+1), api.ErrForm)
		}
		for _, e := range []string{"", "-", "x", "-0", "00", "1099511627784", "18446744073709551616", "10000000000000", strings.Repeat("0", 32), string(rune('0'+member)) + "\x00"} {
			asks(member, e, api.ErrForm)
		}
	}
	asks(0, "1099511627776", api.OK)
	asks(7, "1099511627775", api.OK)
	both(t, "the same one twice", rules, 3, ops(add("i", "11"), add("i", "11")), api.OK)
	both(t, "of two Ids, one another's", append(rules, ids("j")), 3, ops(add("i", "11"), add("j", "12")), api.ErrForm)
	both(t, "of two Ids", append(rules, ids("j")), 3, ops(add("i", "11"), add("j", "11")), api.OK)
}

// P14.1: what each Ref asks for: with an Add to KEY one to OTHER, with a Remove from OTHER one from KEY.
func TestRefs(t *testing.T) {
	for _, rules := range [][]api.Rule{
		some(set("a"), set("b"), set("c"), firm("f"), ref("a", "b")),
		some(ref("a", "b"), set("c"), firm("f"), set("b"), set("a")),
		some(ref("a", "b"), set("c"), firm("f"), set("b"), set("a"), ref("a", "b")),
	} {
		both(t, "an Add to KEY alone", rules, 1, ops(add("a", "x")), api.ErrForm)
		both(t, "an Add to both", rules, 1, ops(add("a", "x"), add("b", "x")), api.OK)
		both(t, "an Add to OTHER alone", rules, 1, ops(add("b", "x")), api.OK)
		both(t, "an Add of another one to OTHER", rules, 1, ops(add("a", "x"), add("b", "y")), api.ErrForm)
		both(t, "an Add of a longer one to OTHER", rules, 1, ops(add("a", "x"), add("b", "xx")), api.ErrForm)
		both(t, "an Add to KEY and a third one", rules, 1, ops(add("a", "x"), add("c", "x"), add("f", "x")), api.ErrForm)
		both(t, "an Add to KEY, a Remove from OTHER", rules, 1, ops(add("a", "x"), remove("b", "x")), api.ErrForm)
		both(t, "a Remove from OTHER alone", rules, 1, ops(remove("b", "x")), api.ErrForm)
		both(t, "a Remove from both", rules, 1, ops(remove("a", "x"), remove("b", "x")), api.OK)
		both(t, "a Remove from KEY alone", rules, 1, ops(remove("a", "x")), api.OK)
		both(t, "a Remove of another one from KEY", rules, 1, ops(remove("b", "x"), remove("a", "y")), api.ErrForm)
		both(t, "a Remove from OTHER and a third one", rules, 1, ops(remove("b", "x"), remove("c", "x"), remove("f", "x")), api.ErrForm)
		both(t, "a Remove from KEY, an Add to OTHER", rules, 1, ops(remove("a", "x"), add("b", "x")), api.OK)
		both(t, "an Add to OTHER, a Remove from KEY of another one", rules, 1, ops(add("b", "x"), remove("a", "y")), api.OK)
		both(t, "two of which one is added to OTHER", rules, 1, ops(add("a", "x"), add("a", "y"), add("b", "x")), api.ErrForm)
		both(t, "two of both", rules, 1, ops(add("a", "x"), add("a", "y"), add("b", "y"), add("b", "x")), api.OK)
		both(t, "one added, one removed", rules, 1, ops(add("a", "x"), add("b", "x"), remove("a", "y"), remove("b", "y")), api.OK)
		both(t, "one added, one half removed", rules, 1, ops(add("a", "x"), add("b", "x"), remove("b", "y")), api.ErrForm)
		both(t, "an element of no byte", rules, 1, ops(add("a", "")), api.ErrForm)
		both(t, "an element of no byte, to both", rules, 1, ops(add("a", ""), add("b", "")), api.OK)
		both(t, "a third one alone", rules, 1, ops(add("c", "x"), remove("c", "y"), add("f", "x")), api.OK)
	}
}

// P14.1: several Refs at once: a row, a ring, two of one KEY, two of one OTHER.
func TestSeveralRefs(t *testing.T) {
	sets := some(set("a"), set("b"), set("c"))
	row := append(sets, ref("a", "b"), ref("b", "c"))
	both(t, "a row, to the first two", row, 1, ops(add("a", "x"), add("b", "x")), api.ErrForm)
	both(t, "a row, to the ends", row, 1, ops(add("a", "x"), add("c", "x")), api.ErrForm)
	both(t, "a row, to all", row, 1, ops(add("a", "x"), add("b", "x"), add("c", "x")), api.OK)
	both(t, "a row, to the last two", row, 1, ops(add("b", "x"), add("c", "x")), api.OK)
	both(t, "a row, from the last two", row, 1, ops(remove("b", "x"), remove("c", "x")), api.ErrForm)
	both(t, "a row, from the ends", row, 1, ops(remove("a", "x"), remove("c", "x")), api.ErrForm)
	both(t, "a row, from all", row, 1, ops(remove("a", "x"), remove("b", "x"), remove("c", "x")), api.OK)
	both(t, "a row, from the first two", row, 1, ops(remove("a", "x"), remove("b", "x")), api.OK)
	ring := append(sets, ref("a", "b"), ref("b", "c"), ref("c", "a"))
	for i, key := range []string{"a", "b", "c"} {
		next := []string{"b", "c", "a"}[i]
		both(t, "a ring, one", ring, 1, ops(add(key, "x")), api.ErrForm)
		both(t, "a ring, two", ring, 1, ops(add(key, "x"), add(next, "x")), api.ErrForm)
		both(t, "a ring, one", ring, 1, ops(remove(key, "x")), api.ErrForm)
		both(t, "a ring, two", ring, 1, ops(remove(key, "x"), remove(next, "x")), api.ErrForm)
	}
	both(t, "a ring, all", ring, 1, ops(add("a", "x"), add("b", "x"), add("c", "x"), remove("a", "y"), remove("c", "y"), remove("b", "y")), api.OK)
	fork := append(sets, ref("a", "b"), ref("a", "c"))
	both(t, "two of one KEY, to one", fork, 1, ops(add("a", "x"), add("b", "x")), api.ErrForm)
	both(t, "two of one KEY, to the other", fork, 1, ops(add("a", "x"), add("c", "x")), api.ErrForm)
	both(t, "two of one KEY, to both", fork, 1, ops(add("a", "x"), add("c", "x"), add("b", "x")), api.OK)
	both(t, "two of one KEY, from one", fork, 1, ops(remove("c", "x"), remove("a", "x")), api.OK)
	both(t, "two of one KEY, from one alone", fork, 1, ops(remove("c", "x")), api.ErrForm)
	meet := append(sets, ref("a", "c"), ref("b", "c"))
	both(t, "two of one OTHER, from one", meet, 1, ops(remove("c", "x"), remove("a", "x")), api.ErrForm)
	both(t, "two of one OTHER, from the other", meet, 1, ops(remove("c", "x"), remove("b", "x")), api.ErrForm)
	both(t, "two of one OTHER, from both", meet, 1, ops(remove("c", "x"), remove("b", "x"), remove("a", "x")), api.OK)
	both(t, "two of one OTHER, to one", meet, 1, ops(add("a", "x"), add("c", "x")), api.OK)
	both(t, "two of one OTHER, to both", meet, 1, ops(add("a", "x"), add("b", "x"), add("c", "x")), api.OK)
}

// P14.1: what each Either asks for: with an Off of one an On of the other.
func TestEithers(t *testing.T) {
	for _, rules := range [][]api.Rule{
		some(flag("a", 1), flag("b", 0), flag("c", 1), either("a", "b")),
		some(either("a", "b"), flag("c", 0), flag("b", 1), flag("a", 0)),
		some(either("b", "a"), either("a", "b"), flag("c", 0), flag("b", 1), flag("a", 1)),
	} {
		for _, k := range [][2]string{{"a", "b"}, {"b", "a"}} {
			both(t, "an Off alone", rules, 2, ops(off(k[0])), api.ErrForm)
			both(t, "an Off, an On of the other", rules, 2, ops(off(k[0]), on(k[1])), api.OK)
			both(t, "an Off, an On of itself", rules, 2, ops(off(k[0]), on(k[0])), api.ErrForm)
			both(t, "an Off, an On of both", rules, 2, ops(off(k[0]), on(k[0]), on(k[1])), api.ErrForm)
			both(t, "an Off, an On of a third one", rules, 2, ops(off(k[0]), on("c")), api.ErrForm)
			both(t, "an On alone", rules, 2, ops(on(k[0])), api.OK)
			both(t, "an Off of each, an On of one", rules, 2, ops(off(k[0]), off(k[1]), on(k[1])), api.ErrForm)
			both(t, "an Off twice, an On once", rules, 2, ops(off(k[0]), on(k[1]), off(k[0])), api.OK)
		}
		both(t, "an Off of each", rules, 2, ops(off("a"), off("b")), api.ErrForm)
		both(t, "an Off and an On of each", rules, 2, ops(off("a"), off("b"), on("a"), on("b")), api.ErrForm)
		both(t, "an On of each", rules, 2, ops(on("a"), on("b")), api.OK)
		both(t, "an Off of a third one", rules, 2, ops(off("c")), api.OK)
		both(t, "an On of one, an Off of a third one", rules, 2, ops(on("a"), off("c")), api.OK)
	}
}

// P14.1: several Eithers at once, and Eithers beside Refs and Ids.
func TestSeveralRules(t *testing.T) {
	flags := some(flag("a", 1), flag("b", 1), flag("c", 1))
	row := append(flags, either("a", "b"), either("c", "b"))
	both(t, "the middle one, one", row, 2, ops(off("b"), on("a")), api.ErrForm)
	both(t, "the middle one, the other", row, 2, ops(off("b"), on("c")), api.ErrForm)
	both(t, "the middle one, both", row, 2, ops(off("b"), on("c"), on("a")), api.OK)
	both(t, "the ends", row, 2, ops(off("a"), off("c"), on("b")), api.OK)
	both(t, "the ends alone", row, 2, ops(off("a"), off("c")), api.ErrForm)
	both(t, "an end and the other end", row, 2, ops(off("a"), on("c")), api.ErrForm)
	ring := append(row, either("a", "c"))
	both(t, "a ring, one off", ring, 2, ops(off("a"), on("b"), on("c")), api.OK)
	both(t, "a ring, one off, one on", ring, 2, ops(off("a"), on("b")), api.ErrForm)
	both(t, "a ring, two off", ring, 2, ops(off("a"), off("b"), on("c")), api.ErrForm)
	mixed := append(row, set("s"), set("t"), ref("s", "t"), ids("i"))
	whole := ops(off("a"), on("b"), add("s", "x"), add("t", "x"), remove("s", "y"), remove("t", "y"), add("i", "2"))
	both(t, "all that is owed", mixed, 2, whole, api.OK)
	for place, want := range []api.Errno{api.OK, api.ErrForm, api.OK, api.ErrForm, api.ErrForm, api.OK, api.OK} {
		both(t, fmt.Sprint("without number ", place), mixed, 2, slices.Delete(slices.Clone(whole), place, place+1), want)
	}
	both(t, "another's identifier", mixed, 3, whole, api.ErrForm)
}

// P14.1: Form against the plain telling.
func TestFormAsTold(t *testing.T) {
	r := rand.New(rand.NewSource(1))
	met := map[api.Errno]int{}
	for range 60000 {
		rules := goodRules(r, 8)
		if r.Intn(10) == 0 {
			rules = anyRules(r)
		}
		member := r.Intn(8)
		l := someOps(r, rules, member)
		if r.Intn(20) == 0 {
			member = r.Intn(12) - 2
		}
		want := plainForm(rules, member, l)
		met[want]++
		forms(t, fmt.Sprintf("of %v", rules), rules, member, l, want)
		if t.Failed() {
			t.FailNow()
		}
	}
	for err, least := range map[api.Errno]int{api.OK: 5000, api.ErrRule: 3000, api.ErrTxn: 1000, api.ErrKind: 1000, api.ErrForm: 5000} {
		if met[err] < least {
			t.Errorf("met %v", met)
		}
	}
}
