package right_test

import (
	"fmt"
	"math"
	"slices"
	"strings"
	"testing"

	"levee/api"
	"levee/cut"
	"levee/right"
	"levee/rule"
)

// An asking is all that may be handed in to the three calls.
type asking struct {
	rules  []api.Rule
	grants []api.Grant
	l      api.Logs
	member int
	key    string
	ops    []api.Op
	v      api.Vector
}

// goodLogs: logs that may be, of the first five members; number 2 of each depends on number 1 of all.
func goodLogs() api.Logs {
	var l api.Logs
	for i := range 5 {
		l = by(i, add("s", "x"), add("t", "x")).behind(l)
	}
	for i := range 5 {
		l = by(i, inc("c", 1), dec("b", 1)).seeing(1, 1, 1, 1, 1).behind(l)
	}
	return l
}

// goodAsking: all three calls answer it, member 2 has 9 units.
func goodAsking() asking {
	return asking{
		rules: every(), grants: granted(grant("b", 2, 10), grant("d", 1, 1), grant("b", 1, 5)), l: goodLogs(), member: 2, key: "b",
		ops: ops(dec("b", 2), add("i", "10")), v: api.Vector{2, 1, 1, 1, 1},
	}
}

// A fault is one way in which an asking may not be. Where two stand beside each other, the one of the lower rank is told.
type fault struct {
	name  string
	rank  int
	err   api.Errno
	spoil func(a *asking)
}

// ruleFaults: each of the ways of chapter 14's Check.
func ruleFaults() []fault {
	faults := []fault{{"65 rules", 0, api.ErrFull, func(a *asking) {
		for i := range 65 {
			a.rules = append(a.rules, counter(fmt.Sprint("x", i)))
		}
	}}}
	for name, bad := range map[string][]api.Rule{
		"a rule of nothing": make([]api.Rule, 1), "a kind that is none": {{Kind: 11, Key: "k"}}, "a key that is none": {set("A")}, "one key twice": {counter("b")},
		"a Start that is too great": {bound("k", 0, most+1)}, "a Min that is too low": {bound("k", -most-1, 0)}, "a Start below Min": {bound("k", 1, 0)},
		"a field that isn't named": {{Kind: api.Set, Key: "k", Min: 1}}, "a Flag from 2": {flag("k", 2)}, "a Ref of no Set": {ref("s", "b")}, "a Ref of one": {ref("s", "s")},
		"an Either of no Flag": {either("f", "s")}, "an Either of none that is on": {flag("k", 0), either("g", "k")},
	} {
		faults = append(faults, fault{name, 1, api.ErrRule, func(a *asking) { a.rules = append(slices.Clone(a.rules), bad...) }})
		faults = append(faults, fault{name + " ahead", 1, api.ErrRule, func(a *asking) { a.rules = append(slices.Clone(bad), a.rules...) }})
	}
	return faults
}

// badGrants: such that may not be.
func badGrants() map[string]api.Grant {
	grants := map[string]api.Grant{"a grant of nothing": {}}
	for _, n := range []int64{0, -1, most + 1, -most, 1 << 41, 1 << 32 << 30, math.MaxInt64, math.MinInt64, math.MinInt64 + 1} {
		grants[fmt.Sprint("a grant of ", n)] = grant("b", 2, n)
	}
	for _, key := range []string{"", " ", "A", "b ", "a.b", "é", "\x00", "b\n", strings.Repeat("b", 33), strings.Repeat("b", 100000)} {
		grants[fmt.Sprintf("a grant of %.20q", key)] = grant(key, 2, 1)
	}
	for _, member := range wrongMembers() {
		grants[fmt.Sprint("a grant to ", member)] = grant("b", member, 1)
	}
	return grants
}

// wrongMembers are none, though some are one where a number is cut off.
func wrongMembers() []int {
	return []int{-1, 8, 9, -2, -8, 255, 256, 258, 1 << 32, 1<<32 + 2, -1<<32 + 2, math.MaxInt, math.MinInt, math.MinInt + 2}
}

// grantFaults: too many, and each of those that may not be, at the beginning, the end and between.
func grantFaults() []fault {
	faults := []fault{
		{"257 grants", 2, api.ErrLong, func(a *asking) {
			a.grants = append(slices.Repeat(granted(grant("b", 2, 1)), 257-len(a.grants)), a.grants...)
		}},
		{"1000 grants", 2, api.ErrLong, func(a *asking) { a.grants = append(slices.Repeat(granted(grant("b", 2, 1)), 1000), a.grants...) }},
	}
	for name, g := range badGrants() {
		for place := range 4 {
			faults = append(faults, fault{fmt.Sprint(name, " at ", place), 3, api.ErrArg, func(a *asking) { a.grants = slices.Insert(slices.Clone(a.grants), place, g) }})
		}
	}
	return faults
}

// logFaults: each of the ways of chapter 9's Check, at the ends of the logs and within them.
func logFaults() []fault {
	faults := []fault{{"a log that is too long", 4, api.ErrLong, func(a *asking) { a.l[6] = alone(6, full+1, inc("c", 1)) }}}
	for _, f := range []struct {
		name  string
		err   api.Errno
		spoil func(x *api.Txn)
	}{
		{"no operation", api.ErrTxn, func(x *api.Txn) { x.Ops = nil }},
		{"an operation of no kind", api.ErrTxn, func(x *api.Txn) { x.Ops[1].Kind = 9 }},
		{"a Give to the giver", api.ErrTxn, func(x *api.Txn) { x.Ops[0] = give("b", fmt.Sprint(x.Origin), 1) }},
		{"no stamp", api.ErrTxn, func(x *api.Txn) { x.Stamp = 0 }},
		{"another number", api.ErrTxn, func(x *api.Txn) { x.Seq++; x.Deps[x.Origin]++ }},
		{"an Origin that is none", api.ErrTxn, func(x *api.Txn) { x.Origin = 8 }},
		{"an Origin that is another's", api.ErrTxn, func(x *api.Txn) { x.Deps = all(x.Seq - 1); x.Origin = (x.Origin + 1) % 5 }},
		{"Deps beyond a log", api.ErrGap, func(x *api.Txn) { x.Deps[(x.Origin+1)%5] = 3 }},
		{"Deps of no log", api.ErrGap, func(x *api.Txn) { x.Deps[7] = top }},
		{"a stamp of its Deps", api.ErrTxn, func(x *api.Txn) { x.Deps[(x.Origin+1)%5] = x.Seq }},
	} {
		for _, at := range [][2]int{{0, 0}, {0, 1}, {2, 1}, {4, 1}} {
			faults = append(faults, fault{fmt.Sprint(f.name, " at ", at), 5, f.err, func(a *asking) { a.l = changed(a.l, at[0], at[1], f.spoil) }})
		}
	}
	return faults
}

// memberFaults: members that are none.
func memberFaults() []fault {
	var faults []fault
	for _, member := range wrongMembers() {
		faults = append(faults, fault{fmt.Sprint("member ", member), 6, api.ErrArg, func(a *asking) { a.member = member }})
	}
	return faults
}

// keyFaults: keys of no rule, and of a rule that is no Bound, with a Ref or an Either of that key ahead, too.
func keyFaults() []fault {
	var faults []fault
	for _, key := range []string{"", "k", "bb", "B", "b ", "\xff", strings.Repeat("b", 33)} {
		faults = append(faults, fault{fmt.Sprintf("key %q", key), 7, api.ErrRule, func(a *asking) { a.key = key }})
	}
	for _, key := range []string{"s", "t", "f", "g", "c", "m", "l", "u", "i"} {
		faults = append(faults, fault{fmt.Sprintf("key %q", key), 7, api.ErrKind, func(a *asking) { a.key = key }})
	}
	return faults
}

// cutFaults: cuts that aren't closed.
func cutFaults() []fault {
	var faults []fault
	for _, v := range []api.Vector{{2}, {0, 2}, {2, 1, 1, 1}, {3, 2, 2, 2, 2}, {1, 1, 1, 1, 1, 1}, {7: 1}, all(1 << 63), {1 << 32}, {1<<32 + 1}} {
		faults = append(faults, fault{fmt.Sprint("cut ", v), 8, api.ErrOpen, func(a *asking) { a.v = v }})
	}
	return faults
}

// opFaults: what operations may have wrong, rank by rank.
func opFaults() []fault {
	behind := func(name string, rank int, err api.Errno, l ...api.Op) fault {
		return fault{name, rank, err, func(a *asking) { a.ops = append(slices.Clone(a.ops), l...) }}
	}
	return []fault{
		behind("one that may not be", 7, api.ErrTxn, dec("b", 0)),
		behind("a Give to itself", 7, api.ErrTxn, give("b", "2", 1)),
		behind("nine operations", 7, api.ErrTxn, slices.Repeat(ops(inc("c", 1)), 7)...),
		behind("a key without a rule", 8, api.ErrRule, dec("k", 1)),
		behind("no fit", 8, api.ErrKind, on("b")),
		behind("another's identifier", 9, api.ErrForm, add("i", "3")),
		behind("something owed to a Ref", 9, api.ErrForm, add("s", "x")),
		behind("something owed to an Either", 9, api.ErrForm, off("f")),
		behind("an On and an Off", 9, api.ErrForm, on("g"), off("g")),
		behind("an identifier twice", 10, api.ErrTwice, add("i", "10")),
		behind("more than there is", 10, api.ErrRights, dec("b", 8)),
		behind("more than there is, by a Give", 10, api.ErrRights, give("b", "0", 8)),
	}
}

// fullFaults: logs that can't have one more.
func fullFaults() []fault {
	return []fault{
		{"a full log", 11, api.ErrFull, func(a *asking) {
			a.l[2] = append(slices.Clone(a.l[2]), alone(2, full, inc("c", 1))[len(a.l[2]):]...)
		}},
		{"a stamp that can't grow", 11, api.ErrFull, func(a *asking) {
			a.l = changed(by(7, inc("c", 1)).behind(a.l), 7, 0, func(x *api.Txn) { x.Stamp = top })
		}},
	}
}

// noUnits, noMake, noSlack: the call tells that error, and nothing beside it.
func noUnits(t *testing.T, name string, a asking, want api.Errno) {
	t.Helper()
	has(t, name, a.rules, a.grants, a.l, a.member, a.key, 0, want)
}

func noMake(t *testing.T, name string, a asking, want api.Errno) {
	t.Helper()
	refused(t, name, a.rules, a.grants, a.l, a.member, a.ops, want)
}

func noSlack(t *testing.T, name string, a asking, want api.Errno) {
	t.Helper()
	slack(t, name, a.rules, a.l, a.v, a.key, 0, want)
}

// each: each of the faults alone, and with each one of a later rank, whichever was there first.
func each(t *testing.T, faults []fault, tells func(t *testing.T, name string, a asking, want api.Errno)) {
	t.Helper()
	for _, f := range faults {
		a := goodAsking()
		f.spoil(&a)
		tells(t, f.name, a, f.err)
		later := 0
		for _, g := range faults {
			if g.rank <= f.rank || g.rank == later && strings.Contains(g.name, " at ") {
				continue // of the faults that stand at several places one a rank is enough here
			}
			later = g.rank
			for _, both := range [][]fault{{f, g}, {g, f}} {
				a := goodAsking()
				for _, x := range both {
					x.spoil(&a)
				}
				tells(t, f.name+", "+g.name, a, f.err)
			}
		}
	}
}

// P15.1: what the errors' tests go out from is answered.
func TestGoodAsking(t *testing.T) {
	a := goodAsking()
	has(t, "all is well", a.rules, a.grants, a.l, a.member, a.key, 9, api.OK)
	made(t, "all is well", a.rules, a.grants, a.l, a.member, a.ops)
	slack(t, "all is well", a.rules, a.l, a.v, a.key, 46, api.OK)
	for _, f := range slices.Concat(ruleFaults(), logFaults()) {
		a := goodAsking()
		f.spoil(&a)
		if err := max(rule.Check(a.rules), cut.Check(a.l)); err != f.err {
			t.Errorf("%s: %v, not %v", f.name, err, f.err)
		}
	}
}

// P15.1: the errors of Units, in order.
func TestUnitsErrors(t *testing.T) {
	each(t, slices.Concat(ruleFaults(), grantFaults(), logFaults(), memberFaults(), keyFaults()), noUnits)
}

// P15.1: the errors of Make, in order.
func TestMakeErrors(t *testing.T) {
	each(t, slices.Concat(ruleFaults(), grantFaults(), logFaults(), memberFaults(), opFaults(), fullFaults()), noMake)
}

// P15.1: no operation is one of Form's errors, behind all that come ahead of Form.
func TestNoOperation(t *testing.T) {
	for _, f := range slices.Concat(ruleFaults(), grantFaults(), logFaults(), memberFaults()) {
		a := goodAsking()
		f.spoil(&a)
		refused(t, f.name+", no operation", a.rules, a.grants, a.l, a.member, nil, f.err)
	}
	for member := range 8 {
		a := goodAsking()
		refused(t, "no operation", a.rules, a.grants, a.l, member, nil, api.ErrTxn)
		refused(t, "no operation", a.rules, a.grants, a.l, member, ops(), api.ErrTxn)
		refused(t, "no operation, no rules", nil, nil, a.l, member, nil, api.ErrTxn)
	}
}

// P15.1: the errors of Slack, in order.
func TestSlackErrors(t *testing.T) {
	each(t, slices.Concat(ruleFaults(), logFaults(), keyFaults(), cutFaults()), noSlack)
}

// P15.1: grants and members are nothing to Slack, the cut is nothing to Units and Make, the operations to Units, the key to Make.
func TestNotAsked(t *testing.T) {
	for _, f := range slices.Concat(grantFaults(), memberFaults(), opFaults()) {
		a := goodAsking()
		f.spoil(&a)
		slack(t, f.name, a.rules, a.l, a.v, a.key, 46, api.OK)
	}
	for _, f := range slices.Concat(cutFaults(), opFaults()) {
		a := goodAsking()
		f.spoil(&a)
		has(t, f.name, a.rules, a.grants, a.l, a.member, a.key, 9, api.OK)
	}
	for _, f := range slices.Concat(cutFaults(), keyFaults()) {
		a := goodAsking()
		f.spoil(&a)
		made(t, f.name, a.rules, a.grants, a.l, a.member, a.ops)
	}
}

// P15.1: how many grants may be, and how great; of any key, to any member.
func TestGrants(t *testing.T) {
	for _, n := range []int{0, 1, 255, 256, 257, 258, 1 << 17} {
		grants, want, err := slices.Repeat(granted(grant("b", 2, 3)), n), int64(3*n), api.OK
		if n > 256 {
			want, err = 0, api.ErrLong
		}
		has(t, fmt.Sprint(n, " grants"), every(), grants, api.Logs{}, 2, "b", want, err)
		if n == 0 {
			continue
		}
		for _, place := range []int{0, n / 2, n - 1} {
			bad := slices.Clone(grants)
			bad[place].N = 0
			has(t, fmt.Sprint(n, " grants, of which one may not be"), every(), bad, api.Logs{}, 2, "b", 0, max(err, api.ErrArg))
			refused(t, fmt.Sprint(n, " grants, of which one may not be"), every(), bad, api.Logs{}, 2, ops(inc("b", 1)), max(err, api.ErrArg))
		}
	}
	for _, n := range []int64{1, 2, most - 1, most} {
		for member := range 8 {
			has(t, fmt.Sprint("a grant of ", n), every(), granted(grant("b", member, n)), api.Logs{}, member, "b", n, api.OK)
		}
	}
	for _, key := range []string{"k", "c", "i", "s", "0", "/", strings.Repeat("z", 32)} {
		has(t, fmt.Sprintf("a grant of %q", key), every(), granted(grant(key, 2, 7)), api.Logs{}, 2, "b", 0, api.OK)
		made(t, fmt.Sprintf("a grant of %q", key), every(), granted(grant(key, 2, 7)), api.Logs{}, 2, ops(inc("b", 1)))
		has(t, fmt.Sprintf("a grant of %q, no rules", key), nil, granted(grant(key, 2, 7)), api.Logs{}, 2, key, 0, api.ErrRule)
	}
}

// P15.1: a Ref or an Either isn't the rule of its key, wherever it stands.
func TestKeysOfPairs(t *testing.T) {
	for _, rules := range [][]api.Rule{
		every(), some(ref("s", "t"), ref("t", "s"), set("s"), set("t"), either("f", "g"), either("g", "f"), flag("g", 1), flag("f", 0)), some(set("t"), set("s"), ref("s", "t"), flag("g", 0), flag("f", 1), either("f", "g")),
	} {
		for _, key := range []string{"s", "t", "f", "g"} {
			has(t, "a key of a pair", rules, nil, api.Logs{}, 0, key, 0, api.ErrKind)
			slack(t, "a key of a pair", rules, api.Logs{}, api.Vector{}, key, 0, api.ErrKind)
		}
	}
	has(t, "no rules", nil, nil, api.Logs{}, 0, "b", 0, api.ErrRule)
	slack(t, "no rules", nil, api.Logs{}, api.Vector{}, "b", 0, api.ErrRule)
	refused(t, "no rules", nil, nil, api.Logs{}, 0, ops(inc("b", 1)), api.ErrRule)
	if n, err := right.Units(nil, nil, api.Logs{}, 8, ""); n != 0 || err != api.ErrArg {
		t.Errorf("nothing at all: %d, %v", n, err)
	}
}
