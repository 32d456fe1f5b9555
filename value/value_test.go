package value_test

import (
	"fmt"
	"math"
	"testing"

	"levee/api"
	"levee/cut"
)

// The kinds of keys, and starts at which numbers may be taken wrongly.
var (
	kinds  = []int{api.Counter, api.Bound, api.Set, api.Firm, api.Last, api.Multi, api.Flag, api.Ids}
	starts = []int64{0, 1, -1, 2, -2, 256, 1 << 32, -1 << 32, 1 << 40, math.MaxInt64, math.MinInt64}
)

// beginning: what a key is that nothing happened to.
func beginning(kind int, start int64) api.Value {
	switch kind {
	case api.Counter, api.Bound:
		return api.Value{N: start}
	case api.Flag:
		return api.Value{On: start != 0}
	}
	return api.Value{}
}

// P10.1: the chapter's examples.
func TestExamples(t *testing.T) {
	l := story(by(0, inc(3)), by(1, dec(1)))
	is(t, "the example", api.Counter, 5, l, api.Vector{1, 1}, api.Value{N: 7})
	l = story(by(0, add("x")), by(1, remove("x")).seeing(1))
	is(t, "the example", api.Set, 0, l, api.Vector{1, 1}, api.Value{})
}

// P10.1: no transactions at all, none within the cut, or none of the key.
func TestNothing(t *testing.T) {
	var empty, elsewhere, here api.Logs
	for i := range empty {
		empty[i] = []api.Txn{}
		for _, o := range []api.Op{inc(1), dec(2), add("x"), write("x"), off(), on()} {
			elsewhere, here = by(i, away(o)).behind(elsewhere), by(i, o).behind(here)
		}
	}
	for _, start := range starts {
		for _, kind := range kinds {
			want := beginning(kind, start)
			is(t, "no transactions", kind, start, api.Logs{}, api.Vector{}, want)
			is(t, "no transactions", kind, start, empty, api.Vector{}, want)
			is(t, "none of the key", kind, start, elsewhere, cut.Size(elsewhere), want)
			is(t, "none within the cut", kind, start, here, api.Vector{}, want)
		}
	}
}

// P10.1: a Counter and a Bound have the start, all Incs and no Decs.
func TestNumbers(t *testing.T) {
	for _, c := range []struct {
		name string
		l    api.Logs
		by   int64
	}{
		{"an Inc", story(by(0, inc(1))), 1},
		{"a Dec", story(by(7, dec(1))), -1},
		{"the greatest Inc", story(by(3, inc(1<<40))), 1 << 40},
		{"the greatest Dec", story(by(3, dec(1<<40))), -1 << 40},
		{"one of each", story(by(0, inc(5)), by(1, dec(7))), -2},
		{"in one transaction", story(by(0, inc(5), dec(7), inc(11))), 9},
		{"in one log", story(by(4, inc(5)), by(4, inc(5)), by(4, dec(1))), 9},
		{"one that depends on the other", story(by(0, inc(5)), by(1, inc(6)).seeing(1)), 11},
		{"on another key", story(by(0, inc(5), away(inc(100))), by(1, away(dec(50)))), 5},
		{"a Give", story(by(0, give(5, "1")), by(1, inc(2)), by(2, dec(1), give(9, "0"))), 1},
		{"others", story(by(0, add("x"), inc(2), write("y"), on()), by(1, remove("x"), off(), dec(5))), -3},
	} {
		for _, start := range starts {
			for _, kind := range []int{api.Counter, api.Bound} {
				is(t, c.name, kind, start, c.l, cut.Size(c.l), api.Value{N: start + c.by})
			}
		}
	}
	l := story(by(0, inc(1)), by(1, dec(2)))
	for _, kind := range []int{api.Counter, api.Bound} {
		is(t, "round the greatest", kind, math.MaxInt64, l, api.Vector{1}, api.Value{N: math.MinInt64})
		is(t, "round the least", kind, math.MinInt64, l, api.Vector{0, 1}, api.Value{N: math.MaxInt64 - 1})
		is(t, "there and back", kind, math.MaxInt64, l, api.Vector{1, 1}, api.Value{N: math.MaxInt64 - 1})
	}
}

// P10.1: every member's operations count, each of its transactions.
func TestEachMember(t *testing.T) {
	for i := range api.MaxMembers {
		l := story(by(i, inc(1), add("a"), write("a")), by(i, inc(10), add("b"), write("b")), by(i, inc(100), add("c"), write("c"), on()))
		for n, want := range []int64{0, 1, 11, 111} {
			var v api.Vector
			v[i] = uint64(n)
			list := []string{"a", "b", "c"}[:n]
			is(t, "one member", api.Counter, 0, l, v, api.Value{N: want})
			is(t, "one member", api.Bound, 0, l, v, api.Value{N: want})
			is(t, "one member", api.Set, 0, l, v, elems(list...))
			is(t, "one member", api.Ids, 0, l, v, elems(list...))
			is(t, "one member", api.Firm, 0, l, v, elems(list...))
			is(t, "one member", api.Last, 0, l, v, elems(list[max(n-1, 0):]...))
			is(t, "one member", api.Multi, 0, l, v, elems(list[max(n-1, 0):]...))
			is(t, "one member", api.Flag, 0, l, v, api.Value{On: n == 3})
		}
	}
}

// A tale is a story, and what it makes of a key.
type tale struct {
	name string
	l    api.Logs
	want []string
}

// tell: of each tale the kinds of keys are as it tells, whatever the start.
func tell(t *testing.T, tales []tale, kinds ...int) {
	t.Helper()
	for _, c := range tales {
		for _, kind := range kinds {
			for _, start := range starts {
				is(t, c.name, kind, start, c.l, cut.Size(c.l), elems(c.want...))
			}
		}
	}
}

// P10.1: a Set and an Ids have the elements with an Add that no Remove of this element sees.
func TestSet(t *testing.T) {
	x := []string{"x"}
	tell(t, []tale{
		{"an Add", story(by(0, add("x"))), x},
		{"a Remove", story(by(0, remove("x"))), nil},
		{"an Add of the empty text", story(by(0, add(""))), []string{""}},
		{"a seen one of the empty text", story(by(0, add("")), by(1, remove("")).seeing(1)), nil},
		{"a Remove that sees the Add", story(by(0, add("x")), by(1, remove("x")).seeing(1)), nil},
		{"a Remove that doesn't", story(by(0, add("x")), by(1, remove("x"))), x},
		{"an Add that sees the Remove", story(by(0, remove("x")), by(1, add("x")).seeing(1)), x},
		{"a Remove that sees the first of two Adds", story(by(0, add("x")), by(1, add("x")), by(2, remove("x")).seeing(1)), x},
		{"a Remove that sees the second of two Adds", story(by(0, add("x")), by(1, add("x")), by(2, remove("x")).seeing(0, 1)), x},
		{"a Remove that sees one Add of a log with two", story(by(0, add("x")), by(0, add("x")), by(2, remove("x")).seeing(1)), x},
		{"a Remove that sees both", story(by(0, add("x")), by(1, add("x")), by(2, remove("x")).seeing(1, 1)), nil},
		{"a Remove for each", story(by(0, add("x")), by(1, add("x")), by(2, remove("x")).seeing(1), by(3, remove("x")).seeing(0, 1)), nil},
		{"two Removes that see the same one", story(by(0, add("x")), by(1, add("x")), by(2, remove("x")).seeing(1), by(3, remove("x")).seeing(1)), x},
		{"two Removes of which one sees the Add", story(by(0, add("x")), by(1, remove("x")).seeing(1), by(2, remove("x"))), nil},
		{"the same, the other way round", story(by(0, add("x")), by(1, remove("x")), by(2, remove("x")).seeing(1)), nil},
		{"in one log", story(by(5, add("x")), by(5, remove("x"))), nil},
		{"in one log, the other way round", story(by(5, remove("x")), by(5, add("x"))), x},
		{"in one log, again", story(by(5, add("x")), by(5, remove("x")), by(5, add("x"))), x},
		{"in one transaction", story(by(3, add("x"), remove("x"))), nil},
		{"in one transaction, the other way round", story(by(3, remove("x"), add("x"))), x},
		{"in one transaction, again", story(by(3, add("x"), remove("x"), add("x"))), x},
		{"in one transaction, two Adds ahead", story(by(3, add("x"), add("x"), remove("x"))), nil},
		{"in one transaction, others between", story(by(3, add("x"), away(remove("x")), write("x"), add("y"), remove("x"))), []string{"y"}},
		{"in one transaction, of another element", story(by(3, add("x"), remove("y"))), x},
		{"in one transaction, on another key", story(by(3, add("x"), away(remove("x")))), x},
		{"ahead in its own transaction, and seen", story(by(0, add("x")), by(1, remove("x"), add("x")).seeing(1)), x},
		{"behind in its own transaction, and unseen", story(by(0, add("x")), by(1, add("x"), remove("x"))), x},
		{"of another element", story(by(0, add("x")), by(1, remove("y")).seeing(1)), x},
		{"of an element that begins so", story(by(0, add("x")), by(1, remove("xx"), remove("")).seeing(1)), x},
		{"on another key", story(by(0, add("x")), by(1, away(remove("x"))).seeing(1)), x},
		{"seen by what it depends on alone", story(by(0, add("x")), by(1, inc(1)).seeing(1), by(2, remove("x")).seeing(0, 1)), x},
		{"two elements", story(by(0, add("y")), by(1, add("x")), by(2, remove("y")).seeing(1, 1)), x},
		{"many elements", story(by(7, add("b"), add("a")), by(0, add("\xff"), add("ab")), by(3, add("a"), add(""), add("B")), by(3, add("b"))), []string{"", "B", "a", "ab", "b", "\xff"}},
	}, api.Set, api.Ids)
}

// P10.1: a Firm key has the elements with an Add, each of whose Removes is seen by an Add of it.
func TestFirm(t *testing.T) {
	x := []string{"x"}
	tell(t, []tale{
		{"an Add", story(by(0, add("x"))), x},
		{"a Remove", story(by(0, remove("x"))), nil},
		{"an Add of the empty text", story(by(0, add(""))), []string{""}},
		{"one of the empty text, and a Remove", story(by(0, add("")), by(1, remove(""))), nil},
		{"a Remove that sees the Add", story(by(0, add("x")), by(1, remove("x")).seeing(1)), nil},
		{"a Remove that doesn't", story(by(0, add("x")), by(1, remove("x"))), nil},
		{"an Add that sees the Remove", story(by(0, remove("x")), by(1, add("x")).seeing(1)), x},
		{"an Add that sees one of two Removes", story(by(0, remove("x")), by(1, remove("x")), by(2, add("x")).seeing(1)), nil},
		{"an Add that sees the other one", story(by(0, remove("x")), by(1, remove("x")), by(2, add("x")).seeing(0, 1)), nil},
		{"an Add that sees one Remove of a log with two", story(by(0, remove("x")), by(0, remove("x")), by(2, add("x")).seeing(1)), nil},
		{"an Add that sees both", story(by(0, remove("x")), by(1, remove("x")), by(2, add("x")).seeing(1, 1)), x},
		{"an Add for each", story(by(0, remove("x")), by(1, remove("x")), by(2, add("x")).seeing(1), by(3, add("x")).seeing(0, 1)), x},
		{"two Adds that see the same one", story(by(0, remove("x")), by(1, remove("x")), by(2, add("x")).seeing(1), by(3, add("x")).seeing(1)), nil},
		{"two Adds of which one sees the Remove", story(by(0, remove("x")), by(1, add("x")).seeing(1), by(2, add("x"))), x},
		{"the same, the other way round", story(by(0, remove("x")), by(1, add("x")), by(2, add("x")).seeing(1)), x},
		{"in one log", story(by(5, add("x")), by(5, remove("x"))), nil},
		{"in one log, the other way round", story(by(5, remove("x")), by(5, add("x"))), x},
		{"in one log, again", story(by(5, add("x")), by(5, remove("x")), by(5, add("x"))), x},
		{"in one transaction", story(by(3, add("x"), remove("x"))), nil},
		{"in one transaction, the other way round", story(by(3, remove("x"), add("x"))), x},
		{"in one transaction, again", story(by(3, remove("x"), add("x"), remove("x"))), nil},
		{"in one transaction, two Removes ahead", story(by(3, remove("x"), remove("x"), add("x"))), x},
		{"in one transaction, of another element", story(by(3, remove("x"), add("y"))), []string{"y"}},
		{"in one transaction, on another key", story(by(0, add("x")), by(3, remove("x"), away(add("x")))), nil},
		{"ahead in its own transaction, and seen", story(by(0, remove("x")), by(1, add("x"), remove("x")).seeing(1)), nil},
		{"behind in its own transaction, and unseen", story(by(0, remove("x")), by(1, remove("x"), add("x"))), nil},
		{"a Remove of another element", story(by(0, add("x")), by(1, remove("y")).seeing(1)), x},
		{"a Remove of an element that begins so", story(by(0, add("x")), by(1, remove("xx"), remove(""))), x},
		{"an Add of another element", story(by(0, remove("x")), by(1, add("y")).seeing(1), by(2, add("x"))), []string{"y"}},
		{"a Remove on another key", story(by(0, add("x")), by(1, away(remove("x"))).seeing(1)), x},
		{"an Add on another key", story(by(0, add("x")), by(1, remove("x")), by(2, away(add("x"))).seeing(1, 1)), nil},
		{"seen by what it depends on alone", story(by(0, remove("x")), by(1, inc(1)).seeing(1), by(2, add("x")).seeing(0, 1)), nil},
		{"two elements", story(by(0, add("y")), by(1, add("x")), by(2, remove("y"))), x},
		{"many elements", story(by(7, add("b"), add("a")), by(0, add("\xff"), add("ab")), by(3, add("a"), add(""), add("B")), by(3, add("b"))), []string{"", "B", "a", "ab", "b", "\xff"}},
	}, api.Firm)
}

// P10.1: a Last has the element of the last Write by Stamp, Origin, Seq, the later one of one transaction.
func TestLast(t *testing.T) {
	x := []string{"x"}
	tell(t, []tale{
		{"a Write", story(by(0, write("x"))), x},
		{"a Write of the empty text", story(by(0, write("x")), by(0, write(""))), []string{""}},
		{"in one transaction", story(by(3, write("z"), write("y"), write("x"))), x},
		{"in one transaction, others behind", story(by(3, write("z"), write("x"), away(write("y")), add("y"))), x},
		{"in one log", story(by(3, write("y")), by(3, write("z")), by(3, write("x"))), x},
		{"of the greater stamp", story(by(0, write("x")).stamped(9), by(7, write("y")).stamped(8)), x},
		{"of the greater stamp, the other way round", story(by(0, write("y")).stamped(8), by(7, write("x")).stamped(9)), x},
		{"of stamps that are no signed numbers", story(by(0, write("x")).stamped(1<<63), by(7, write("y")).stamped(1<<63-1)), x},
		{"of the greatest stamp", story(by(0, write("x")).stamped(top), by(7, write("y")).stamped(1)), x},
		{"of the one stamp", story(by(0, write("z")).stamped(5), by(1, write("y")).stamped(5), by(4, write("x")).stamped(5)), x},
		{"of one stamp, the later one of the later member", story(by(4, write("z"), write("x")).stamped(5), by(0, write("y"), write("w")).stamped(5)), x},
		{"of one stamp, a later number", story(by(0, write("z")), by(0, write("y")).stamped(5), by(1, write("x")).stamped(5)), x},
		{"seen, by a lesser member", story(by(7, write("y")), by(0, write("x")).seeing(0, 0, 0, 0, 0, 0, 0, 1)), x},
		{"behind others of its log", story(by(7, write("y")), by(0, add("y")), by(0, inc(1)), by(0, write("x"))), x},
		{"ahead of others", story(by(0, write("x")), by(1, inc(1)).seeing(1), by(2, away(write("y"))).seeing(1, 1), by(3, add("y")).seeing(1, 1, 1)), x},
		{"none", story(by(0, add("x"), remove("y"), on(), off(), inc(1))), nil},
	}, api.Last)
	for i := range api.MaxMembers {
		for j := range i {
			for a := range 3 {
				for b := range 3 {
					l := story(by(i, write("i")).stamped(uint64(5+a)), by(j, write("j")).stamped(uint64(5+b)))
					want := "i"
					if b > a {
						want = "j"
					}
					is(t, fmt.Sprint("of two members, ", i, " and ", j), api.Last, 0, l, cut.Size(l), elems(want))
				}
			}
		}
	}
}

// P10.1: a Multi has the elements of the Writes that no other Write sees.
func TestMulti(t *testing.T) {
	x, both := []string{"x"}, []string{"x", "y"}
	tell(t, []tale{
		{"a Write", story(by(0, write("x"))), x},
		{"a Write of the empty text", story(by(0, write(""))), []string{""}},
		{"two that don't see each other", story(by(0, write("y")), by(1, write("x"))), both},
		{"two of one element", story(by(0, write("x")), by(1, write("x"))), x},
		{"one that sees the other", story(by(0, write("y")), by(1, write("x")).seeing(1)), x},
		{"one that sees the other, of one element", story(by(0, write("x")), by(1, write("x")).seeing(1)), x},
		{"one that sees the other, of the empty text", story(by(0, write("x")), by(1, write("")).seeing(1)), []string{""}},
		{"one that sees one of two", story(by(0, write("x")), by(1, write("z")), by(2, write("y")).seeing(0, 1)), both},
		{"one that sees one of two of one element", story(by(0, write("x")), by(1, write("x")), by(2, write("y")).seeing(0, 1)), both},
		{"one that sees both", story(by(0, write("y")), by(1, write("z")), by(2, write("x")).seeing(1, 1)), x},
		{"one that sees one of a log with two", story(by(0, write("z")), by(0, write("y")), by(1, write("x")).seeing(1)), both},
		{"two that see one", story(by(0, write("z")), by(1, write("y")).seeing(1), by(2, write("x")).seeing(1)), both},
		{"in one log", story(by(5, write("y")), by(5, write("x"))), x},
		{"in one transaction", story(by(5, write("y"), write("z"), write("x"))), x},
		{"in one transaction, of one element", story(by(5, write("x"), write("y"), write("x"))), x},
		{"in one transaction, others between", story(by(5, write("y"), away(write("z")), add("z"), write("x"), remove("x"))), x},
		{"in one transaction, and another one", story(by(5, write("z"), write("y")), by(6, write("z"), write("x"))), both},
		{"on another key", story(by(0, write("x")), by(1, away(write("y"))).seeing(1)), x},
		{"seen by what it depends on alone", story(by(0, write("y")), by(1, inc(1)).seeing(1), by(2, write("x")).seeing(0, 1)), both},
		{"seen by one that is seen, alone", story(by(0, write("y")), by(1, write("z")).seeing(1), by(2, write("x")).seeing(0, 1)), x},
		{"many", story(by(7, write("b")), by(0, write("\xff")), by(3, write("a")), by(2, write("")), by(1, write("b")), by(6, write("B"))), []string{"", "B", "a", "b", "\xff"}},
		{"none", story(by(0, add("x"), remove("y"), on(), off(), inc(1))), nil},
	}, api.Multi)
}

// P10.1: a Flag is on by an On that no Off sees, or from the start where there is no Off.
func TestFlag(t *testing.T) {
	const asStart = 2
	for _, c := range []struct {
		name string
		l    api.Logs
		want int // 0 off, 1 on
	}{
		{"no operation", api.Logs{}, asStart},
		{"others", story(by(0, add("x"), remove("x"), write("x"), inc(1), dec(1))), asStart},
		{"on another key", story(by(0, away(off())), by(1, away(on()))), asStart},
		{"an On", story(by(0, on())), 1},
		{"an Off", story(by(0, off())), 0},
		{"an Off that sees the On", story(by(0, on()), by(1, off()).seeing(1)), 0},
		{"an Off that doesn't", story(by(0, on()), by(1, off())), 1},
		{"an On that sees the Off", story(by(0, off()), by(1, on()).seeing(1)), 1},
		{"an On of one log that doesn't see the Off of another", story(by(0, off()), by(1, on())), 1},
		{"an Off that sees one of two Ons", story(by(0, on()), by(1, on()), by(2, off()).seeing(0, 1)), 1},
		{"an Off that sees one On of a log with two", story(by(0, on()), by(0, on()), by(2, off()).seeing(1)), 1},
		{"an Off that sees both", story(by(0, on()), by(1, on()), by(2, off()).seeing(1, 1)), 0},
		{"an Off for each", story(by(0, on()), by(1, on()), by(2, off()).seeing(1), by(3, off()).seeing(0, 1)), 0},
		{"an On that sees one of two Offs", story(by(0, off()), by(1, off()), by(2, on()).seeing(1)), 1},
		{"two Offs of which one sees the On", story(by(0, on()), by(1, off()).seeing(1), by(2, off())), 0},
		{"in one log", story(by(0, on()), by(0, off())), 0},
		{"in one log, the other way round", story(by(0, off()), by(0, on())), 1},
		{"in one transaction", story(by(0, on(), off())), 0},
		{"in one transaction, the other way round", story(by(0, off(), on())), 1},
		{"in one transaction, again", story(by(0, on(), off(), on())), 1},
		{"in one transaction, on another key", story(by(0, on(), away(off()))), 1},
		{"behind in its own transaction, and unseen", story(by(0, on()), by(1, on(), off())), 1},
		{"an On on another key", story(by(0, off()), by(1, away(on())).seeing(1)), 0},
		{"an Off on another key", story(by(0, on()), by(1, away(off())).seeing(1)), 1},
		{"seen by what it depends on alone", story(by(0, on()), by(1, inc(1)).seeing(1), by(2, off()).seeing(0, 1)), 1},
	} {
		for _, start := range starts {
			want := api.Value{On: c.want == 1 || c.want == asStart && start != 0}
			is(t, c.name, api.Flag, start, c.l, cut.Size(c.l), want)
		}
	}
}

// P10.1: what stands beyond the cut isn't seen, and sees nothing.
func TestWithinTheCut(t *testing.T) {
	l := story(by(0, add("x"), on(), write("x"), inc(1)), by(1, remove("x"), off(), write("y"), dec(5)).seeing(1), by(0, add("x"), on(), write("z")))
	for _, c := range []struct {
		v            api.Vector
		n            int64
		set, firm    []string
		last, multi  []string
		on, fromOnes bool
	}{
		{api.Vector{}, 0, nil, nil, nil, nil, false, true},
		{api.Vector{1}, 1, []string{"x"}, []string{"x"}, []string{"x"}, []string{"x"}, true, true},
		{api.Vector{1, 1}, -4, nil, nil, []string{"y"}, []string{"y"}, false, false},
		{api.Vector{2}, 1, []string{"x"}, []string{"x"}, []string{"z"}, []string{"z"}, true, true},
		{api.Vector{2, 1}, -4, []string{"x"}, nil, []string{"y"}, []string{"y", "z"}, true, true},
	} {
		is(t, "a part", api.Counter, 0, l, c.v, api.Value{N: c.n})
		is(t, "a part", api.Bound, 3, l, c.v, api.Value{N: c.n + 3})
		is(t, "a part", api.Set, 0, l, c.v, elems(c.set...))
		is(t, "a part", api.Ids, 0, l, c.v, elems(c.set...))
		is(t, "a part", api.Firm, 0, l, c.v, elems(c.firm...))
		is(t, "a part", api.Last, 0, l, c.v, elems(c.last...))
		is(t, "a part", api.Multi, 0, l, c.v, elems(c.multi...))
		is(t, "a part", api.Flag, 0, l, c.v, api.Value{On: c.on})
		is(t, "a part", api.Flag, 1, l, c.v, api.Value{On: c.fromOnes})
	}
}

// P10.1: operations on the key of kinds that its kind doesn't count do nothing, and see nothing, wherever they stand.
func TestOtherKinds(t *testing.T) {
	for _, kind := range kinds {
		for _, mine := range counted(kind) {
			o := opOf(mine, 0, "x", 3)
			alone := story(by(0, o))
			for strange := api.Inc; strange <= api.Off; strange++ {
				if mine == strange || len(counted(kind)) == 2 && (counted(kind)[0] == strange || counted(kind)[1] == strange) {
					continue
				}
				p, q := opOf(strange, 0, "x", 3), opOf(strange, 1, "x", 3)
				for name, l := range map[string]api.Logs{
					"one that sees it":         story(by(0, o), by(1, q).seeing(1)),
					"one that it sees":         story(by(1, q), by(0, o).seeing(0, 1)),
					"one beside it":            story(by(0, o), by(1, q)),
					"one ahead in its log":     story(by(0, p), by(0, o)),
					"one behind in its log":    story(by(0, o), by(0, p)),
					"one ahead, of its own":    story(by(0, p, o)),
					"one behind, of its own":   story(by(0, o, p)),
					"of another element":       story(by(0, o), by(1, opOf(strange, 1, "y", 2)).seeing(1)),
					"ones ahead and behind it": story(by(0, p, p, o, p), by(1, q).seeing(1)),
				} {
					name = fmt.Sprint(name, ", of kind ", strange, " at ", mine)
					for _, start := range starts {
						is(t, name, kind, start, l, cut.Size(l), plainValue(kind, start, alone, api.Vector{1}, key))
					}
				}
				for _, start := range starts {
					is(t, fmt.Sprint("alone, of kind ", strange), kind, start, story(by(0, p)), api.Vector{1}, beginning(kind, start))
				}
			}
		}
	}
}
