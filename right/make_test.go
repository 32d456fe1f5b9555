package right_test

import (
	"fmt"
	"math/rand"
	"slices"
	"strconv"
	"testing"
	"time"

	"levee/api"
	"levee/cut"
	"levee/right"
)

// A try is what a member wants to make, and the error that it gets.
type try struct {
	name   string
	l      api.Logs
	member int
	ops    []api.Op
	err    api.Errno
}

// answers: each try gets its error, or a transaction.
func answers(t *testing.T, grants []api.Grant, tries []try) {
	t.Helper()
	for _, c := range tries {
		if c.err == api.OK {
			made(t, c.name, every(), grants, c.l, c.member, c.ops)
			continue
		}
		refused(t, c.name, every(), grants, c.l, c.member, c.ops, c.err)
	}
}

// P15.1: an identifier that the member added already, in its log or by an operation ahead, isn't added again.
func TestTwice(t *testing.T) {
	l := story(by(2, add("i", "10"), inc("c", 1), add("i", "18")), by(2, remove("i", "18"), add("j", "26")), by(2, inc("c", 1)), by(2, inc("c", 1), add("i", "34")))
	others := story(
		by(1, add("i", "2"), add("i", "9")), by(3, add("i", "10"), remove("i", "10")).seeing(0, 1),
		by(2, add("j", "10"), add("s", "18"), add("t", "18"), add("m", "26"), remove("i", "34"), write("i", "42"), write("l", "50"), add("c", "58")).seeing(0, 1, 0, 1),
	)
	answers(t, nil, []try{
		{"the first one of all", api.Logs{}, 2, ops(add("i", "2")), api.OK},
		{"in the log's first transaction", l, 2, ops(add("i", "10")), api.ErrTwice},
		{"in the log, removed behind", l, 2, ops(add("i", "18")), api.ErrTwice},
		{"in the log's last transaction", l, 2, ops(add("i", "34")), api.ErrTwice},
		{"of another key, in the log", l, 2, ops(add("j", "26")), api.ErrTwice},
		{"to another key than in the log", l, 2, ops(add("i", "26")), api.OK},
		{"to another key than in the log", l, 2, ops(add("j", "10"), add("j", "18"), add("j", "34")), api.OK},
		{"new ones", l, 2, ops(add("i", "2"), add("i", "42"), add("j", "2")), api.OK},
		{"a new one, then one of the log", l, 2, ops(add("i", "2"), add("i", "10")), api.ErrTwice},
		{"one of the log, then a new one", l, 2, ops(add("i", "10"), add("i", "2")), api.ErrTwice},
		{"by an operation ahead", l, 2, ops(add("i", "2"), add("i", "2")), api.ErrTwice},
		{"by an operation ahead, without logs", api.Logs{}, 2, ops(add("i", "2"), add("i", "2")), api.ErrTwice},
		{"by an operation far ahead", api.Logs{}, 2, ops(add("i", "2"), add("j", "2"), inc("c", 1), add("i", "10"), add("j", "10"), remove("i", "18"), on("f"), add("i", "2")), api.ErrTwice},
		{"by one of several ahead", api.Logs{}, 2, ops(add("i", "10"), add("i", "2"), add("j", "10"), add("j", "2"), add("j", "10")), api.ErrTwice},
		{"to two keys", api.Logs{}, 2, ops(add("i", "2"), add("j", "2")), api.OK},
		{"eight new ones", api.Logs{}, 2, ops(add("i", "2"), add("i", "10"), add("i", "18"), add("i", "26"), add("i", "34"), add("i", "42"), add("i", "50"), add("i", "58")), api.OK},
		{"a Remove of what is in the log", l, 2, ops(remove("i", "10"), remove("i", "10"), remove("i", "18"), remove("j", "26")), api.OK},
		{"a Remove of what was never there", api.Logs{}, 2, ops(remove("i", "10"), remove("i", "10"), remove("i", "x")), api.OK},
		{"a Remove beside an Add of another one", api.Logs{}, 2, ops(remove("i", "10"), add("i", "2"), remove("i", "18")), api.OK},
		{"a Remove beside an Add of the log's", l, 2, ops(remove("i", "18"), add("i", "10")), api.ErrTwice},
		{"a Remove and an Add of the log's", l, 2, ops(remove("i", "10"), add("i", "10")), api.ErrForm},
		{"what another member added", others, 2, ops(add("i", "2")), api.OK},
		{"what another member added and removed", others, 2, ops(add("i", "10")), api.OK},
		{"what it added to a Set", others, 2, ops(add("i", "18")), api.OK},
		{"what it added to a Firm key", others, 2, ops(add("i", "26")), api.OK},
		{"what it removed", others, 2, ops(add("i", "34")), api.OK},
		{"what it wrote", others, 2, ops(add("i", "42"), add("i", "50")), api.OK},
		{"what it added to a Counter", others, 2, ops(add("i", "58")), api.OK},
		{"all of that", others, 2, ops(add("i", "2"), add("i", "10"), add("i", "18"), add("i", "26"), add("i", "34"), add("i", "42"), add("i", "50"), add("i", "58")), api.OK},
		{"another member's", l, 2, ops(add("i", "11")), api.ErrForm},
		{"what another member's log has, of that one's", l, 3, ops(add("i", "11")), api.OK},
		{"to a Set twice", others, 2, ops(add("s", "18"), add("t", "18"), add("s", "18")), api.OK},
		{"to a Firm key twice", others, 2, ops(add("m", "26"), add("m", "26")), api.OK},
	})
	answers(t, nil, []try{
		{"number 0", story(by(0, add("i", "0"))), 0, ops(add("i", "0")), api.ErrTwice},
		{"number 0 beside 8", story(by(0, add("i", "0"))), 0, ops(add("i", "8")), api.OK},
		{"the greatest of all", story(by(0, add("i", "1099511627776"))), 0, ops(add("i", "1099511627776")), api.ErrTwice},
		{"of a log full but one", api.Logs{alone(0, full-1, add("i", "8"))}, 0, ops(add("i", "8")), api.ErrTwice},
		{"of a log full but one, another one", api.Logs{alone(0, full-1, add("i", "8"))}, 0, ops(add("i", "16")), api.OK},
	})
}

// P15.1: on a Bound the member has, behind each operation, no less than no units.
func TestRights(t *testing.T) {
	grants := granted(grant("b", 0, 3), grant("d", 0, 1), grant("b", 1, 7), grant("b", 0, 2))
	answers(t, grants, []try{
		{"all by a Dec", api.Logs{}, 0, ops(dec("b", 5)), api.OK},
		{"one more by a Dec", api.Logs{}, 0, ops(dec("b", 6)), api.ErrRights},
		{"many more by a Dec", api.Logs{}, 0, ops(dec("b", most)), api.ErrRights},
		{"all by a Give", api.Logs{}, 0, ops(give("b", "1", 5)), api.OK},
		{"one more by a Give", api.Logs{}, 0, ops(give("b", "1", 6)), api.ErrRights},
		{"many more by a Give", api.Logs{}, 0, ops(give("b", "1", most)), api.ErrRights},
		{"a Give to itself", api.Logs{}, 0, ops(give("b", "0", 1)), api.ErrTxn},
		{"a Give to each other one", api.Logs{}, 1, ops(give("b", "0", 1), give("b", "2", 1), give("b", "3", 1), give("b", "4", 1), give("b", "5", 1), give("b", "6", 1), give("b", "7", 1)), api.OK},
		{"a Give to each other one, and one more", api.Logs{}, 1, ops(give("b", "0", 1), give("b", "2", 1), give("b", "3", 1), give("b", "4", 1), give("b", "5", 1), give("b", "6", 1), give("b", "7", 1), give("b", "0", 1)), api.ErrRights},
		{"all by both", api.Logs{}, 0, ops(dec("b", 2), give("b", "1", 2), dec("b", 1)), api.OK},
		{"one more by both", api.Logs{}, 0, ops(dec("b", 2), give("b", "1", 2), dec("b", 2)), api.ErrRights},
		{"one more by both, at the first", api.Logs{}, 0, ops(dec("b", 6), give("b", "1", 2), inc("b", 9)), api.ErrRights},
		{"by one who has nothing", api.Logs{}, 2, ops(dec("b", 1)), api.ErrRights},
		{"a Give by one who has nothing", api.Logs{}, 2, ops(give("b", "0", 1)), api.ErrRights},
		{"an Inc ahead of a Dec", api.Logs{}, 0, ops(inc("b", 1), dec("b", 6)), api.OK},
		{"an Inc ahead of a Dec of one more", api.Logs{}, 0, ops(inc("b", 1), dec("b", 7)), api.ErrRights},
		{"an Inc behind a Dec", api.Logs{}, 0, ops(dec("b", 6), inc("b", 1)), api.ErrRights},
		{"an Inc behind a Dec that may be", api.Logs{}, 0, ops(dec("b", 5), inc("b", 1), dec("b", 1)), api.OK},
		{"an Inc ahead of a Give", api.Logs{}, 0, ops(inc("b", 1), give("b", "2", 6)), api.OK},
		{"an Inc behind a Give", api.Logs{}, 0, ops(give("b", "2", 6), inc("b", 1)), api.ErrRights},
		{"an Inc by one who has nothing", api.Logs{}, 2, ops(inc("b", 4)), api.OK},
		{"an Inc and a Dec by one who has nothing", api.Logs{}, 2, ops(inc("b", 4), dec("b", 4)), api.OK},
		{"an Inc and a Dec of one more by one who has nothing", api.Logs{}, 2, ops(inc("b", 4), dec("b", 3), dec("b", 2)), api.ErrRights},
		{"an Inc of another bound", api.Logs{}, 0, ops(inc("d", 100), dec("b", 6)), api.ErrRights},
		{"two bounds", api.Logs{}, 0, ops(dec("b", 5), dec("d", 1)), api.OK},
		{"two bounds, one more of the first", api.Logs{}, 0, ops(dec("d", 1), dec("b", 6)), api.ErrRights},
		{"two bounds, one more of the second", api.Logs{}, 0, ops(dec("b", 5), dec("d", 2)), api.ErrRights},
		{"two bounds by turns", api.Logs{}, 0, ops(dec("b", 1), inc("d", 4), dec("b", 4), dec("d", 5), inc("b", 2), inc("d", 1), dec("b", 2), dec("d", 1)), api.OK},
		{"two bounds by turns, one more at the end", api.Logs{}, 0, ops(dec("b", 1), inc("d", 4), dec("b", 4), dec("d", 5), inc("b", 2), inc("d", 1), dec("b", 2), dec("d", 2)), api.ErrRights},
		{"eight Decs, the last one of one more", api.Logs{}, 1, slices.Repeat(ops(dec("b", 1)), 8), api.ErrRights},
		{"seven Decs", api.Logs{}, 1, slices.Repeat(ops(dec("b", 1)), 7), api.OK},
		{"operations on no Bound", api.Logs{}, 2, ops(dec("c", most), dec("c", most), inc("c", 1), on("g"), write("l", "b"), add("m", "b")), api.OK},
		{"operations on no Bound, then one on a Bound", api.Logs{}, 2, ops(inc("c", most), dec("b", 1)), api.ErrRights},
	})
}

// P15.1: what the logs have counts: of the member's own and of Gives to it.
func TestRightsByLogs(t *testing.T) {
	grants := granted(grant("b", 0, 5), grant("b", 1, 7))
	given := story(by(1, give("b", "0", 3), give("b", "2", 1)))
	below := story(by(0, dec("b", 9)))
	answers(t, grants, []try{
		{"behind a Dec, all", story(by(0, dec("b", 2))), 0, ops(dec("b", 3)), api.OK},
		{"behind a Dec, one more", story(by(0, dec("b", 2))), 0, ops(dec("b", 4)), api.ErrRights},
		{"behind another's Dec", story(by(1, dec("b", 2))), 0, ops(dec("b", 5)), api.OK},
		{"behind another's Inc", story(by(1, inc("b", 2))), 0, ops(dec("b", 6)), api.ErrRights},
		{"behind an Inc, all", story(by(0, inc("b", 2))), 0, ops(dec("b", 7)), api.OK},
		{"behind an Inc, one more", story(by(0, inc("b", 2))), 0, ops(dec("b", 8)), api.ErrRights},
		{"behind a Give, all", story(by(0, give("b", "1", 2))), 0, ops(dec("b", 3)), api.OK},
		{"behind a Give, one more", story(by(0, give("b", "1", 2))), 0, ops(dec("b", 4)), api.ErrRights},
		{"behind a Give to it, all", given, 0, ops(dec("b", 8)), api.OK},
		{"behind a Give to it, one more", given, 0, ops(dec("b", 9)), api.ErrRights},
		{"behind a Give to one who had nothing", given, 2, ops(dec("b", 1)), api.OK},
		{"behind a Give to one who had nothing, one more", given, 2, ops(give("b", "0", 2)), api.ErrRights},
		{"behind a Give to another one", given, 3, ops(dec("b", 1)), api.ErrRights},
		{"behind a Give of another bound", story(by(1, give("d", "3", 9))), 3, ops(dec("b", 1)), api.ErrRights},
		{"below nothing, up to nothing", below, 0, ops(inc("b", 4)), api.OK},
		{"below nothing, up to one below", below, 0, ops(inc("b", 3)), api.ErrRights},
		{"below nothing, up in two steps", below, 0, ops(inc("b", 3), inc("b", 1)), api.ErrRights},
		{"below nothing, up and down", below, 0, ops(inc("b", 5), dec("b", 1)), api.OK},
		{"below nothing, up and too far down", below, 0, ops(inc("b", 5), dec("b", 2)), api.ErrRights},
		{"below nothing, elsewhere", below, 0, ops(inc("c", 1), dec("c", 2), inc("d", 1), dec("d", 1), add("i", "0")), api.OK},
		{"below nothing, another member", below, 1, ops(dec("b", 7)), api.OK},
	})
}

// P15.1: the first wrong operation counts, whichever way it is wrong.
func TestFirstWrong(t *testing.T) {
	l := story(by(0, add("i", "8"), dec("b", 1)))
	grants := granted(grant("b", 0, 3))
	twice, more := add("i", "8"), dec("b", 3)
	answers(t, grants, []try{
		{"an identifier, then units", l, 0, ops(twice, more), api.ErrTwice},
		{"units, then an identifier", l, 0, ops(more, twice), api.ErrRights},
		{"well, then an identifier, then units", l, 0, ops(dec("b", 1), add("i", "16"), twice, dec("c", 5), more), api.ErrTwice},
		{"well, then units, then an identifier", l, 0, ops(dec("b", 1), add("i", "16"), dec("b", 2), dec("c", 5), twice), api.ErrRights},
		{"an identifier that an operation ahead added, then units", l, 0, ops(add("i", "16"), dec("b", 2), add("i", "16"), dec("b", 1)), api.ErrTwice},
		{"units, then one that an operation ahead added", l, 0, ops(add("i", "16"), dec("b", 2), dec("b", 1), add("i", "16")), api.ErrRights},
		{"an Inc too late, then an identifier", l, 0, ops(more, inc("b", 5), twice), api.ErrRights},
		{"an identifier, then something owed", l, 0, ops(twice, add("s", "x")), api.ErrForm},
		{"units, then no rule", l, 0, ops(more, inc("nobody", 1)), api.ErrRule},
		{"units, then no fit", l, 0, ops(more, on("b")), api.ErrKind},
		{"units, then one that may not be", l, 0, ops(more, dec("b", 0)), api.ErrTxn},
		{"all is well", l, 0, ops(dec("b", 2), add("i", "16")), api.OK},
	})
}

// P15.1: a log of MaxTxns transactions, and a stamp that can't grow; behind the other errors.
func TestFull(t *testing.T) {
	long, short, other := api.Logs{2: alone(2, full, add("i", "2"))}, api.Logs{2: alone(2, full-1, add("i", "2"))}, api.Logs{5: alone(5, full, add("i", "5"))}
	stamped := func(member int, stamp uint64) api.Logs {
		return changed(story(by(1, inc("c", 1)), by(2, add("i", "2")), by(member, inc("c", 1))), member, 1, func(x *api.Txn) { x.Stamp = stamp })
	}
	grants := granted(grant("b", 2, 3))
	answers(t, grants, []try{
		{"a full log", long, 2, ops(dec("b", 3)), api.ErrFull},
		{"one fewer", short, 2, ops(dec("b", 3)), api.OK},
		{"another's full log", other, 2, ops(dec("b", 3)), api.OK},
		{"a stamp that can't grow", stamped(2, top), 2, ops(dec("b", 3)), api.ErrFull},
		{"another's stamp that can't grow", stamped(1, top), 2, ops(dec("b", 3)), api.ErrFull},
		{"one below", stamped(2, top-1), 2, ops(dec("b", 3)), api.OK},
		{"one below, another's", stamped(1, top-1), 2, ops(dec("b", 3)), api.OK},
		{"a stamp of 63 bits", stamped(1, 1<<63-1), 2, ops(dec("b", 3)), api.OK},
		{"a stamp of 64 bits", stamped(1, 1<<63), 2, ops(dec("b", 3)), api.OK},
		{"a full log, units", long, 2, ops(dec("b", 4)), api.ErrRights},
		{"a full log, an identifier", long, 2, ops(add("i", "2")), api.ErrTwice},
		{"a full log, no operation", long, 2, nil, api.ErrTxn},
		{"a full log, something owed", long, 2, ops(add("s", "x")), api.ErrForm},
		{"a stamp that can't grow, units", stamped(1, top), 2, ops(dec("b", 4)), api.ErrRights},
		{"a stamp that can't grow, an identifier", stamped(1, top), 2, ops(add("i", "2")), api.ErrTwice},
		{"a full log, one who has nothing", long, 2, ops(inc("d", 1), dec("d", 2)), api.ErrRights},
	})
	if x := made(t, "the last number", every(), grants, short, 2, ops(dec("b", 3))); x.Seq != full {
		t.Errorf("the last number is %d", x.Seq)
	}
	if x := made(t, "the last stamp", every(), grants, stamped(1, top-1), 2, ops(dec("b", 3))); x.Stamp != top {
		t.Errorf("the last stamp is %d", x.Stamp)
	}
}

// P15.1: Seq, Deps, Stamp and the operations of what is made.
func TestMade(t *testing.T) {
	l := story(by(0, inc("c", 1)), by(1, inc("c", 1)).seeing(1), by(1, inc("c", 2)), by(4, inc("c", 1)), by(7, inc("c", 1)).seeing(1, 2), by(7, inc("c", 1)), by(7, inc("c", 1)))
	l = changed(l, 4, 0, func(x *api.Txn) { x.Stamp = 40 })
	for member := range 8 {
		list := ops(write("l", "z"), inc("b", most), on("f"), add("i", strconv.Itoa(8+member)), remove("m", ""), write("u", ""), give("b", strconv.Itoa((member+1)%8), 7), write("l", "z"))
		want := api.Txn{Origin: member, Seq: []uint64{2, 3, 1, 1, 2, 1, 1, 4}[member], Stamp: 41, Deps: api.Vector{1, 2, 0, 0, 1, 0, 0, 3}, Ops: list}
		makes(t, "eight operations", every(), nil, l, member, list, want, api.OK)
		made(t, "eight operations", every(), nil, l, member, list)
		want = api.Txn{Origin: member, Seq: 1, Stamp: 1, Ops: list[:1]}
		makes(t, "nothing ahead", every(), nil, api.Logs{}, member, list[:1], want, api.OK)
		makes(t, "without grants", every(), granted(), api.Logs{}, member, list[:1], want, api.OK)
	}
}

// P15.1: one transaction behind the other, each by what the one ahead left.
func TestOneByOne(t *testing.T) {
	grants := granted(grant("b", 3, 10))
	var l api.Logs
	for k, list := range [][]api.Op{ops(dec("b", 4)), ops(add("i", "3"), dec("b", 1)), ops(give("b", "4", 2)), ops(add("i", "11"), inc("b", 1)), ops(dec("b", 4))} {
		x := made(t, "one by one", every(), grants, l, 3, list)
		refused(t, "one by one, with one unit more", every(), grants, l, 3, append(slices.Clone(list), dec("b", []int64{7, 6, 4, 5, 1}[k])), api.ErrRights)
		l, _ = cut.Add(l, x)
	}
	refused(t, "an identifier of the first ones", every(), grants, l, 3, ops(add("i", "3")), api.ErrTwice)
	refused(t, "a unit behind all", every(), grants, l, 3, ops(dec("b", 1)), api.ErrRights)
	has(t, "behind all", every(), grants, l, 3, "b", 0, api.OK)
	has(t, "behind all", every(), grants, l, 4, "b", 2, api.OK)
	x := made(t, "by the other one", every(), grants, l, 4, ops(dec("b", 2)))
	if x.Deps != (api.Vector{3: 5}) || x.Stamp != 6 {
		t.Errorf("by the other one: %+v", x)
	}
}

// P15.1: Make against the plain telling.
func TestMakeAsTold(t *testing.T) {
	r := rand.New(rand.NewSource(1))
	met := map[api.Errno]int{}
	for range 6000 {
		members := 1 + r.Intn(8)
		l, grants := someLogs(r, members, r.Intn(14)), someGrants(r, members)
		if r.Intn(20) == 0 && len(l[0]) > 0 {
			l = changed(l, 0, len(l[0])-1, func(x *api.Txn) { x.Stamp = top - uint64(r.Intn(2)) })
		}
		for range 4 {
			member := one(r, r.Intn(8), r.Intn(members), r.Intn(members), r.Intn(members), -1, 8)
			list := someOps(r, member&7)
			want, err := plainMake(every(), grants, l, member, list)
			makes(t, "by chance", every(), grants, l, member, list, want, err)
			met[err]++
		}
		if t.Failed() {
			t.Fatalf("of %+v", l)
		}
	}
	for _, err := range []api.Errno{api.OK, api.ErrArg, api.ErrTxn, api.ErrRule, api.ErrKind, api.ErrForm, api.ErrRights, api.ErrTwice, api.ErrFull} {
		if met[err] < 50 {
			t.Errorf("met %v", met)
		}
	}
}

// P15.1: full logs, catalogues and grants are answered, and soon.
func TestMakeFull(t *testing.T) {
	var l api.Logs
	for i := range l {
		l[i] = alone(i, full-1, slices.Repeat(ops(inc("k0", 1)), 8)...)
	}
	var rules []api.Rule
	var list []api.Op
	for i := range 64 {
		rules = append(rules, bound(fmt.Sprint("k", i), 0, 0))
		if i < 8 {
			list = append(list, dec(fmt.Sprint("k", i), most))
		}
	}
	var grants []api.Grant
	for i := range 256 {
		grants = append(grants, grant(fmt.Sprint("k", i%8), i/32, most))
	}
	begin := time.Now()
	for member := range 8 {
		made(t, "full", rules, grants, l, member, list)
		has(t, "full", rules, grants, l, member, "k0", 4*most+8*(full-1), api.OK)
		slack(t, "full", rules, l, all(full-1), "k0", 64*(full-1), api.OK)
	}
	if _, err := right.Make(rules, grants, l, 0, list[:1]); err != api.OK {
		t.Error(err)
	}
	if spent := time.Since(begin); spent > 20*time.Second {
		t.Errorf("it took %v", spent)
	}
}
