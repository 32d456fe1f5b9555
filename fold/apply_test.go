package fold_test

import (
	"fmt"
	"math"
	"testing"

	"levee/api"
)

// A turn is the tags of a state, a transaction, and what that makes of them.
type turn struct {
	name   string
	before []api.Tag
	t      api.Txn
	after  []api.Tag
}

// turns: each of them is as told, for each of the kinds.
func turns(t *testing.T, l []turn, kinds ...int) {
	t.Helper()
	for _, c := range l {
		for _, kind := range kinds {
			becomes(t, c.name, api.State{Kind: kind, Live: c.before}, api.State{Kind: kind, Live: c.after}, c.t)
		}
	}
}

// P11.1: a Counter and a Bound go up by Incs and down by Decs.
func TestNumbers(t *testing.T) {
	for _, c := range []struct {
		name string
		ops  []api.Op
		by   int64
	}{
		{"an Inc", []api.Op{inc(1)}, 1},
		{"a Dec", []api.Op{dec(1)}, -1},
		{"the greatest Inc", []api.Op{inc(1 << 40)}, 1 << 40},
		{"the greatest Dec", []api.Op{dec(1 << 40)}, -1 << 40},
		{"one of each", []api.Op{inc(5), dec(7)}, -2},
		{"the other way round", []api.Op{dec(7), inc(5)}, -2},
		{"eight", []api.Op{inc(1), inc(10), inc(100), inc(1000), dec(2), dec(20), dec(200), dec(2000)}, -1111},
		{"on the other key", []api.Op{away(inc(100))}, 0},
		{"on both", []api.Op{away(inc(100)), inc(3), away(dec(50)), dec(1)}, 2},
		{"a Give", []api.Op{give(5, "1")}, 0},
		{"a Give between", []api.Op{inc(1), give(1<<40, "7"), inc(1)}, 2},
		{"of other kinds", []api.Op{add("x"), inc(2), remove("x"), write("y"), dec(5), on(), off()}, -3},
	} {
		for _, start := range starts {
			for _, kind := range []int{api.Counter, api.Bound} {
				before, after := api.State{Kind: kind, N: start}, api.State{Kind: kind, N: start + c.by}
				becomes(t, c.name, before, after, made(0, 1, 1, api.Vector{}, c.ops...))
				becomes(t, c.name, before, after, made(4, 9, 77, api.Vector{3, 0, top}, c.ops...))
			}
		}
	}
	for _, kind := range []int{api.Counter, api.Bound} {
		becomes(t, "round the greatest", api.State{Kind: kind, N: math.MaxInt64}, api.State{Kind: kind, N: math.MinInt64}, made(0, 1, 1, api.Vector{}, inc(1)))
		becomes(t, "round the least", api.State{Kind: kind, N: math.MinInt64}, api.State{Kind: kind, N: math.MaxInt64 - 1}, made(0, 1, 1, api.Vector{}, dec(2)))
		becomes(t, "again", api.State{Kind: kind, N: 5}, api.State{Kind: kind, N: 11}, made(0, 1, 1, api.Vector{}, inc(3)), made(0, 1, 1, api.Vector{}, inc(3)))
	}
}

// someTags: those of some members' operations, in order.
func someTags() []api.Tag { return tags(at(1, 2, 1, "x"), at(1, 2, 3, "y"), at(3, 1, 0, "x")) }

// P11.1: where an Add's tag goes to in a Set and an Ids: ahead of the first one that doesn't stand ahead of it.
func TestAdd(t *testing.T) {
	l := someTags()
	turns(t, []turn{
		{"the first one", nil, made(0, 1, 1, api.Vector{}, add("x")), tags(at(0, 1, 0, "x"))},
		{"of the empty text", nil, made(0, 1, 1, api.Vector{}, add("")), tags(at(0, 1, 0, ""))},
		{"of the last member", nil, made(7, top, top, api.Vector{}, add("x")), tags(at(7, top, 0, "x"))},
		{"ahead of all", l, made(0, 9, 1, api.Vector{}, add("z")), tags(at(0, 9, 0, "z"), l[0], l[1], l[2])},
		{"ahead by the number", l, made(1, 1, 1, api.Vector{}, add("z")), tags(at(1, 1, 0, "z"), l[0], l[1], l[2])},
		{"ahead by the place", l, made(1, 2, 1, api.Vector{}, add("z")), tags(at(1, 2, 0, "z"), l[0], l[1], l[2])},
		{"between by the place", l, made(1, 2, 1, api.Vector{}, inc(1), inc(1), add("z")), tags(l[0], at(1, 2, 2, "z"), l[1], l[2])},
		{"between by the number", l, made(1, 3, 1, api.Vector{}, add("z")), tags(l[0], l[1], at(1, 3, 0, "z"), l[2])},
		{"between by the member", l, made(2, 1, 1, api.Vector{}, add("z")), tags(l[0], l[1], at(2, 1, 0, "z"), l[2])},
		{"behind all by the place", l, made(3, 1, 1, api.Vector{}, inc(1), add("z")), tags(l[0], l[1], l[2], at(3, 1, 1, "z"))},
		{"behind all by the number", l, made(3, 2, 1, api.Vector{}, add("z")), tags(l[0], l[1], l[2], at(3, 2, 0, "z"))},
		{"behind all by the member", l, made(4, 1, 1, api.Vector{}, add("a")), tags(l[0], l[1], l[2], at(4, 1, 0, "a"))},
		{"its stamp and Deps tell nothing", l, made(2, 1, top, api.Vector{top, top, 0, top}, add("x")), tags(l[0], l[1], at(2, 1, 0, "x"), l[2])},
		{"of an element that is there", l, made(4, 1, 1, api.Vector{0, 2, 0, 1}, add("x")), tags(l[0], l[1], l[2], at(4, 1, 0, "x"))},
		{"one that is there already", l, made(1, 2, 1, api.Vector{}, inc(1), add("x")), tags(l[0], l[0], l[1], l[2])},
		{"one that is there already, of another element", l, made(1, 2, 1, api.Vector{}, inc(1), add("z")), tags(at(1, 2, 1, "z"), l[0], l[1], l[2])},
		{"the last one, that is there already", l, made(3, 1, 1, api.Vector{}, add("x")), tags(l[0], l[1], l[2], l[2])},
		{"two of one element", nil, made(0, 1, 1, api.Vector{}, add("x"), add("x")), tags(at(0, 1, 0, "x"), at(0, 1, 1, "x"))},
		{"eight", nil, made(0, 1, 1, api.Vector{}, add("h"), add("g"), add("f"), add("e"), add("d"), add("c"), add("b"), add("a")),
			tags(at(0, 1, 0, "h"), at(0, 1, 1, "g"), at(0, 1, 2, "f"), at(0, 1, 3, "e"), at(0, 1, 4, "d"), at(0, 1, 5, "c"), at(0, 1, 6, "b"), at(0, 1, 7, "a"))},
		{"its own place, behind others", nil, made(2, 3, 1, api.Vector{}, away(add("a")), inc(1), add("x"), away(add("b")), add("y")), tags(at(2, 3, 2, "x"), at(2, 3, 4, "y"))},
		{"on the other key", l, made(0, 1, 1, api.Vector{}, away(add("x"))), l},
	}, api.Set, api.Ids)
}

// P11.1: tags in no order, or twice: the place of a new one is ahead of the first that doesn't stand ahead of it, whatever comes behind.
func TestAddToOddLists(t *testing.T) {
	a, b, c := at(0, 1, 0, "x"), at(1, 1, 0, "x"), at(2, 1, 0, "x")
	x := at(1, 2, 0, "z")
	z := made(1, 2, 1, api.Vector{}, add("z"))
	turns(t, []turn{
		{"falling", tags(c, b, a), z, tags(x, c, b, a)},
		{"up and down", tags(a, c, b), z, tags(a, x, c, b)},
		{"down and up", tags(b, a, c), z, tags(b, a, x, c)},
		{"one below behind one above", tags(b, c, a), z, tags(b, x, c, a)},
		{"twice", tags(a, a, c, c), z, tags(a, a, x, c, c)},
		{"it is there further on", tags(c, x), z, tags(x, c, x)},
		{"it is there twice", tags(a, x, x, c), z, tags(a, x, x, x, c)},
		{"of no members", tags(at(-1, 9, 9, ""), at(8, 0, -1, "")), z, tags(at(-1, 9, 9, ""), x, at(8, 0, -1, ""))},
		{"of the least and the greatest numbers", tags(at(math.MinInt, 0, math.MaxInt, ""), at(1, 2, math.MinInt, ""), at(1, 2, math.MaxInt, ""), at(1, top, math.MinInt, ""), at(math.MaxInt, 0, 0, "")), z,
			tags(at(math.MinInt, 0, math.MaxInt, ""), at(1, 2, math.MinInt, ""), x, at(1, 2, math.MaxInt, ""), at(1, top, math.MinInt, ""), at(math.MaxInt, 0, 0, ""))},
		{"numbers above 2^63", tags(at(1, 1<<63, 0, ""), at(1, top, 0, "")), z, tags(x, at(1, 1<<63, 0, ""), at(1, top, 0, ""))},
	}, api.Set, api.Ids)
}

// P11.1: which tags a Remove takes out of a Set and an Ids: those of its own element that its transaction's Deps and its own place tell.
func TestRemove(t *testing.T) {
	l := someTags()
	turns(t, []turn{
		{"of nothing", nil, made(0, 1, 1, api.Vector{top, top}, remove("x")), nil},
		{"that sees nothing", l, made(0, 1, 1, api.Vector{}, remove("x")), l},
		{"that sees all of its element", l, made(0, 1, 1, api.Vector{0, 2, 0, 1}, remove("x")), tags(l[1])},
		{"that sees all of another element", l, made(0, 1, 1, api.Vector{0, 2, 0, 1}, remove("z")), l},
		{"that sees the first of two", l, made(0, 1, 1, api.Vector{0, 2}, remove("x")), tags(l[1], l[2])},
		{"that sees the last of two", l, made(0, 1, 1, api.Vector{0, 1, 0, 1}, remove("x")), tags(l[0], l[1])},
		{"that sees more than that", l, made(0, 1, 1, api.Vector{9, top, 9, 1 << 63}, remove("x")), tags(l[1])},
		{"that sees others alone", l, made(0, 1, 1, api.Vector{0, 1, top, 0, top, top, top, top}, remove("x")), l},
		{"of its own log", l, made(1, 3, 9, api.Vector{}, remove("x")), tags(l[1], l[2])},
		{"of its own log, further on", l, made(1, 9, 9, api.Vector{}, remove("x")), tags(l[1], l[2])},
		{"ahead of it in its own log", l, made(1, 1, 9, api.Vector{}, remove("x")), l},
		{"its stamp tells nothing", l, made(0, 1, top, api.Vector{}, remove("x")), l},
		{"of the empty text", tags(at(0, 1, 0, ""), at(0, 1, 1, "x")), made(1, 1, 2, api.Vector{1}, remove("")), tags(at(0, 1, 1, "x"))},
		{"of a text of which it is a beginning", tags(at(0, 1, 0, "xx"), at(0, 1, 1, "X")), made(1, 1, 2, api.Vector{1}, remove("x")), tags(at(0, 1, 0, "xx"), at(0, 1, 1, "X"))},
		{"of two elements", l, made(0, 1, 1, api.Vector{0, 2, 0, 1}, remove("x"), remove("y")), nil},
		{"on the other key", l, made(0, 1, 1, api.Vector{0, 2, 0, 1}, away(remove("x"))), l},
		{"one tag twice", tags(l[0], l[0], l[2]), made(0, 1, 1, api.Vector{0, 2}, remove("x")), tags(l[2])},
		{"in no order", tags(l[2], l[1], l[0]), made(0, 1, 1, api.Vector{0, 2}, remove("x")), tags(l[2], l[1])},
		{"of members that are none", tags(at(-1, 1, 0, "x"), at(8, 1, 0, "x"), at(math.MinInt, 1, 0, "x"), at(256, 1, 0, "x")), made(0, 1, 1, api.Vector{top, top, top, top, top, top, top, top}, remove("x")),
			tags(at(-1, 1, 0, "x"), at(8, 1, 0, "x"), at(math.MinInt, 1, 0, "x"), at(256, 1, 0, "x"))},
		{"of no number", tags(at(1, 0, 0, "x")), made(0, 1, 1, api.Vector{0, 5}, remove("x")), tags(at(1, 0, 0, "x"))},
		{"of the greatest number", tags(at(1, top, 0, "x")), made(0, 1, 1, api.Vector{0, top}, remove("x")), nil},
		{"of any place there", tags(at(1, 1, -1, "x"), at(1, 1, math.MaxInt, "x"), at(1, 1, math.MinInt, "x")), made(0, 1, 1, api.Vector{0, 1}, remove("x")), nil},
	}, api.Set, api.Ids)
}

// P11.1: several operations of one transaction: the later one sees the earlier one.
func TestWithinOne(t *testing.T) {
	own := tags(at(1, 2, 0, "x"), at(1, 2, 1, "x"), at(1, 2, 2, "x"))
	turns(t, []turn{
		{"an Add, then a Remove", nil, made(0, 1, 1, api.Vector{}, add("x"), remove("x")), nil},
		{"a Remove, then an Add", nil, made(0, 1, 1, api.Vector{}, remove("x"), add("x")), tags(at(0, 1, 1, "x"))},
		{"a Remove between Adds", nil, made(0, 1, 1, api.Vector{}, add("x"), remove("x"), add("x")), tags(at(0, 1, 2, "x"))},
		{"of another element", nil, made(0, 1, 1, api.Vector{}, add("x"), remove("y")), tags(at(0, 1, 0, "x"))},
		{"of another key", nil, made(0, 1, 1, api.Vector{}, add("x"), away(remove("x"))), tags(at(0, 1, 0, "x"))},
		{"what was there, and its own", someTags(), made(3, 1, 5, api.Vector{0, 2}, inc(1), add("x"), remove("x"), add("y")), tags(at(1, 2, 3, "y"), at(3, 1, 3, "y"))},
		{"the same again: the first place", own, made(1, 2, 1, api.Vector{}, remove("x")), own},
		{"the same again: the middle place", own, made(1, 2, 1, api.Vector{}, inc(1), remove("x")), own[1:]},
		{"the same again: the last place", own, made(1, 2, 1, api.Vector{}, inc(1), inc(1), remove("x")), own[2:]},
		{"the same again: behind all", own, made(1, 2, 1, api.Vector{}, inc(1), inc(1), inc(1), remove("x")), nil},
		{"the same again, of a place below nothing", tags(at(1, 2, -1, "x")), made(1, 2, 1, api.Vector{}, remove("x")), nil},
	}, api.Set, api.Ids)
}

// P11.1: a Firm key keeps what was ever added, and the tags of the Removes that no Add of their element saw.
func TestFirm(t *testing.T) {
	two := tags(at(1, 1, 0, "x"), at(2, 1, 0, "x"))
	x := []string{"x"}
	for _, c := range []struct {
		name   string
		ever   []string
		before []api.Tag
		t      api.Txn
		want   []string
		after  []api.Tag
	}{
		{"an Add", nil, nil, made(0, 1, 1, api.Vector{}, add("x")), x, nil},
		{"a Remove", nil, nil, made(0, 1, 1, api.Vector{}, remove("x")), nil, tags(at(0, 1, 0, "x"))},
		{"a Remove that sees an Add", x, nil, made(0, 1, 1, api.Vector{0, 1}, remove("x")), x, tags(at(0, 1, 0, "x"))},
		{"an Add that sees a Remove", nil, two[:1], made(0, 1, 1, api.Vector{0, 1}, add("x")), x, nil},
		{"an Add that sees none", nil, two, made(0, 1, 1, api.Vector{}, add("x")), x, two},
		{"an Add that clears the first of two Removes", nil, two, made(0, 1, 1, api.Vector{0, 1}, add("x")), x, two[1:]},
		{"an Add that clears the last of two Removes", nil, two, made(0, 1, 1, api.Vector{0, 0, 1}, add("x")), x, two[:1]},
		{"an Add that clears both", nil, two, made(0, 1, 1, api.Vector{0, 1, 1}, add("x")), x, nil},
		{"an Add of another element", nil, two, made(0, 1, 1, api.Vector{0, 1, 1}, add("y")), []string{"y"}, two},
		{"an Add of an element that was added", x, two, made(0, 1, 1, api.Vector{0, 1}, add("x")), x, two[1:]},
		{"ahead of others", []string{"b", "d"}, nil, made(0, 1, 1, api.Vector{}, add("a")), []string{"a", "b", "d"}, nil},
		{"between others", []string{"b", "d"}, nil, made(0, 1, 1, api.Vector{}, add("c")), []string{"b", "c", "d"}, nil},
		{"behind others", []string{"b", "d"}, nil, made(0, 1, 1, api.Vector{}, add("e")), []string{"b", "d", "e"}, nil},
		{"the empty text", []string{"b", "d"}, nil, made(0, 1, 1, api.Vector{}, add("")), []string{"", "b", "d"}, nil},
		{"the first of others", []string{"b", "d"}, nil, made(0, 1, 1, api.Vector{}, add("b")), []string{"b", "d"}, nil},
		{"the last of others", []string{"b", "d"}, nil, made(0, 1, 1, api.Vector{}, add("d")), []string{"b", "d"}, nil},
		{"a list that falls", []string{"e", "c", "a"}, nil, made(0, 1, 1, api.Vector{}, add("c")), []string{"c", "e", "c", "a"}, nil},
		{"a list that falls, at its place", []string{"e", "c", "a"}, nil, made(0, 1, 1, api.Vector{}, add("e")), []string{"e", "c", "a"}, nil},
		{"a list with one twice", []string{"a", "a", "c", "c"}, nil, made(0, 1, 1, api.Vector{}, add("b")), []string{"a", "a", "b", "c", "c"}, nil},
		{"an Add, then a Remove", nil, nil, made(0, 1, 1, api.Vector{}, add("x"), remove("x")), x, tags(at(0, 1, 1, "x"))},
		{"a Remove, then an Add", nil, nil, made(0, 1, 1, api.Vector{}, remove("x"), add("x")), x, nil},
		{"an Add between Removes", nil, nil, made(0, 1, 1, api.Vector{}, remove("x"), add("x"), remove("x")), x, tags(at(0, 1, 2, "x"))},
		{"two Removes", nil, two, made(1, 2, 1, api.Vector{}, remove("x"), inc(1), remove("y")), nil, tags(two[0], at(1, 2, 0, "x"), at(1, 2, 2, "y"), two[1])},
		{"one that is there already", nil, two, made(2, 1, 1, api.Vector{}, remove("x")), nil, tags(two[0], two[1], two[1])},
		{"tags in no order", nil, tags(two[1], two[0]), made(1, 2, 1, api.Vector{}, remove("x")), nil, tags(at(1, 2, 0, "x"), two[1], two[0])},
		{"on the other key", x, two, made(0, 1, 1, api.Vector{0, 1, 1}, away(add("x")), away(remove("y"))), x, two},
	} {
		becomes(t, c.name, api.State{Kind: api.Firm, Ever: c.ever, Live: c.before}, api.State{Kind: api.Firm, Ever: c.want, Live: c.after}, c.t)
	}
}

// P11.1: a Last has the Write of the greatest stamp, and of one stamp that whose tag stands last.
func TestLast(t *testing.T) {
	had := api.State{Kind: api.Last, Has: true, Stamp: 5, Top: at(3, 4, 2, "x")}
	is := func(stamp uint64, top api.Tag) api.State {
		return api.State{Kind: api.Last, Has: true, Stamp: stamp, Top: top}
	}
	for _, c := range []struct {
		name   string
		before api.State
		t      api.Txn
		after  api.State
	}{
		{"the first one", api.State{Kind: api.Last}, made(0, 1, 1, api.Vector{}, write("y")), is(1, at(0, 1, 0, "y"))},
		{"the first one, of the empty text", api.State{Kind: api.Last}, made(0, 1, 1, api.Vector{}, write("")), is(1, at(0, 1, 0, ""))},
		{"the first one, though a stamp is told", api.State{Kind: api.Last, Stamp: 9, Top: at(7, 7, 7, "x")}, made(0, 1, 1, api.Vector{}, write("y")), is(1, at(0, 1, 0, "y"))},
		{"a smaller stamp", had, made(7, 9, 4, api.Vector{}, write("y")), had},
		{"a smaller stamp that sees it", had, made(7, 9, 4, api.Vector{3: 4}, write("y")), had},
		{"a greater stamp", had, made(0, 1, 6, api.Vector{}, write("y")), is(6, at(0, 1, 0, "y"))},
		{"a stamp above 2^63", had, made(0, 1, top, api.Vector{}, write("y")), is(top, at(0, 1, 0, "y"))},
		{"a stamp below one above 2^63", is(1<<63, at(0, 1, 0, "x")), made(7, 1, 1, api.Vector{}, write("y")), is(1<<63, at(0, 1, 0, "x"))},
		{"the same stamp, behind by the member", had, made(4, 1, 5, api.Vector{}, write("y")), is(5, at(4, 1, 0, "y"))},
		{"the same stamp, ahead by the member", had, made(2, 9, 5, api.Vector{}, write("y")), had},
		{"the same stamp, behind by the number", had, made(3, 5, 5, api.Vector{}, write("y")), is(5, at(3, 5, 0, "y"))},
		{"the same stamp, ahead by the number", had, made(3, 3, 5, api.Vector{}, inc(1), inc(1), inc(1), write("y")), had},
		{"the same stamp, behind by the place", had, made(3, 4, 5, api.Vector{}, inc(1), inc(1), inc(1), write("y")), is(5, at(3, 4, 3, "y"))},
		{"the same stamp, ahead by the place", had, made(3, 4, 5, api.Vector{}, inc(1), write("y")), had},
		{"the same stamp and tag", had, made(3, 4, 5, api.Vector{}, inc(1), inc(1), write("y")), had},
		{"two in one", had, made(0, 1, 6, api.Vector{}, write("y"), write("z")), is(6, at(0, 1, 1, "z"))},
		{"two in one, the later one of a lesser text", had, made(0, 1, 6, api.Vector{}, write("y"), inc(1), write("a")), is(6, at(0, 1, 2, "a"))},
		{"two in one, of a smaller stamp", had, made(4, 1, 4, api.Vector{}, write("y"), write("z")), had},
		{"two in one, of which the later one stands behind", had, made(3, 4, 5, api.Vector{}, write("y"), write("z"), write("a"), write("b")), is(5, at(3, 4, 3, "b"))},
		{"on the other key", had, made(7, 9, 9, api.Vector{}, away(write("y"))), had},
		{"the other one behind it is on the other key", had, made(7, 9, 9, api.Vector{}, write("y"), away(write("z"))), is(9, at(7, 9, 0, "y"))},
		{"a Top of the least and the greatest numbers", is(5, at(math.MinInt, top, math.MaxInt, "x")), made(0, 1, 5, api.Vector{}, write("y")), is(5, at(0, 1, 0, "y"))},
		{"a Top of no member", is(5, at(8, 0, -1, "x")), made(7, top, 5, api.Vector{}, write("y")), is(5, at(8, 0, -1, "x"))},
	} {
		becomes(t, c.name, c.before, c.after, c.t)
	}
}

// P11.1: a Multi has the tags of the Writes that no other Write saw, of whatever element.
func TestMulti(t *testing.T) {
	l := someTags()
	turns(t, []turn{
		{"the first one", nil, made(0, 1, 1, api.Vector{}, write("x")), tags(at(0, 1, 0, "x"))},
		{"of the empty text", nil, made(0, 1, 1, api.Vector{}, write("")), tags(at(0, 1, 0, ""))},
		{"one that sees none", l, made(2, 1, 1, api.Vector{}, write("x")), tags(l[0], l[1], at(2, 1, 0, "x"), l[2])},
		{"one that sees some", l, made(2, 1, 1, api.Vector{0, 2}, write("z")), tags(at(2, 1, 0, "z"), l[2])},
		{"one that sees the last", l, made(2, 1, 1, api.Vector{0, 1, 0, 1}, write("z")), tags(l[0], l[1], at(2, 1, 0, "z"))},
		{"one that sees all", l, made(0, 1, 1, api.Vector{0, 2, 0, 1}, write("z")), tags(at(0, 1, 0, "z"))},
		{"of its own log", l, made(1, 3, 1, api.Vector{}, write("z")), tags(at(1, 3, 0, "z"), l[2])},
		{"two in one", l, made(4, 1, 1, api.Vector{0, 2}, write("a"), inc(1), write("b")), tags(l[2], at(4, 1, 2, "b"))},
		{"one that is there already", l, made(3, 1, 1, api.Vector{}, write("y")), tags(l[0], l[1], at(3, 1, 0, "y"), l[2])},
		{"one that stands between its own", l, made(1, 2, 1, api.Vector{}, inc(1), inc(1), write("z")), tags(at(1, 2, 2, "z"), l[1], l[2])},
		{"in no order", tags(l[2], l[1], l[0]), made(2, 1, 1, api.Vector{0, 2}, write("z")), tags(at(2, 1, 0, "z"), l[2])},
		{"one tag twice", tags(l[0], l[0], l[2]), made(2, 1, 1, api.Vector{}, write("z")), tags(l[0], l[0], at(2, 1, 0, "z"), l[2])},
		{"on the other key", l, made(0, 1, 1, api.Vector{0, 2, 0, 1}, away(write("z"))), l},
	}, api.Multi)
}

// P11.1: a Flag has the tags of the Ons that no Off saw, and is no longer on from the beginning behind an Off.
func TestFlag(t *testing.T) {
	two := tags(at(1, 1, 0, ""), at(2, 1, 0, ""))
	for _, c := range []struct {
		turn
		off bool
	}{
		{turn{"an On", nil, made(0, 1, 1, api.Vector{}, on()), tags(at(0, 1, 0, ""))}, false},
		{turn{"an Off", nil, made(0, 1, 1, api.Vector{}, off()), nil}, true},
		{turn{"an Off that sees all", two, made(0, 1, 1, api.Vector{0, 1, 1}, off()), nil}, true},
		{turn{"an Off that sees none", two, made(0, 1, 1, api.Vector{}, off()), two}, true},
		{turn{"an Off that sees the first", two, made(0, 1, 1, api.Vector{0, 1}, off()), two[1:]}, true},
		{turn{"an Off that sees the last", two, made(0, 1, 1, api.Vector{0, 0, 1}, off()), two[:1]}, true},
		{turn{"an On between", two, made(1, 2, 1, api.Vector{}, on()), tags(two[0], at(1, 2, 0, ""), two[1])}, false},
		{turn{"an On that sees all", two, made(0, 1, 1, api.Vector{0, 1, 1}, on()), tags(at(0, 1, 0, ""), two[0], two[1])}, false},
		{turn{"an On, then an Off", nil, made(0, 1, 1, api.Vector{}, on(), off()), nil}, true},
		{turn{"an Off, then an On", nil, made(0, 1, 1, api.Vector{}, off(), on()), tags(at(0, 1, 1, ""))}, true},
		{turn{"an Off between Ons", nil, made(0, 1, 1, api.Vector{}, on(), off(), on()), tags(at(0, 1, 2, ""))}, true},
		{turn{"two Ons", nil, made(0, 1, 1, api.Vector{}, on(), inc(1), on()), tags(at(0, 1, 0, ""), at(0, 1, 2, ""))}, false},
		{turn{"on the other key", two, made(0, 1, 1, api.Vector{0, 1, 1}, away(off()), away(on())), two}, false},
		{turn{"one that is there already", two, made(1, 1, 1, api.Vector{}, on()), tags(two[0], two[0], two[1])}, false},
		{turn{"tags of elements", tags(at(1, 1, 0, "x"), at(1, 1, 1, ""), at(1, 1, 2, "y")), made(0, 1, 1, api.Vector{0, 1}, off()), tags(at(1, 1, 0, "x"), at(1, 1, 2, "y"))}, true},
	} {
		for _, start := range []bool{false, true} {
			before := api.State{Kind: api.Flag, Live: c.before, Default: start}
			after := api.State{Kind: api.Flag, Live: c.after, Default: start && !c.off}
			becomes(t, fmt.Sprint(c.name, ", from ", start), before, after, c.t)
		}
	}
}

// filled: a state of that kind, with something in each field that it names.
func filled(kind int) api.State {
	l := tags(at(0, 1, 0, "x"), at(0, 1, 1, ""), at(2, 1, 0, "x"))
	return plainNamed(api.State{Kind: kind, N: 5, Ever: []string{"", "x"}, Live: l, Has: true, Stamp: 3, Top: at(2, 1, 0, "x"), Default: true})
}

// P11.1: operations of kinds that the key's kind doesn't count do nothing, wherever they stand; nor do any on other keys.
func TestOtherKinds(t *testing.T) {
	deps := api.Vector{1, 0, 1}
	for _, kind := range kinds {
		for strange := api.Inc; strange <= api.Off; strange++ {
			p := opOf(strange, 3, "x", 3)
			for _, s := range []api.State{begun(t, kind, 1), filled(kind)} {
				becomes(t, fmt.Sprint("of kind ", strange, " on the other key"), s, s, made(3, 1, 9, deps, away(p), away(p)))
				own := counted(kind)
				if strange == own[0] || strange == own[len(own)-1] {
					continue
				}
				becomes(t, fmt.Sprint("of kind ", strange), s, s, made(3, 1, 9, deps, p))
				becomes(t, fmt.Sprint("of kind ", strange, ", again"), s, s, made(3, 1, 9, deps, p, away(p), p), made(0, 1, 9, deps, p))
				for _, mine := range own {
					o := opOf(mine, 3, "x", 3)
					want := plainOp(s, made(3, 1, 9, deps, p, o), 1)
					becomes(t, fmt.Sprint("of kind ", strange, " about one of kind ", mine), s, want, made(3, 1, 9, deps, p, o, p))
				}
			}
		}
	}
}

// P11.1: the key may be any text; of one that no operation has the state stays.
func TestAnyKey(t *testing.T) {
	x := made(0, 1, 1, api.Vector{}, inc(1), add("x"), remove("y"), write("z"), on(), off())
	for _, k := range []string{"", "K", "k", "k/", "k/11", "k/1\x00", " k/1", other, "é", string(make([]byte, 100000))} {
		for _, kind := range kinds {
			for _, s := range []api.State{begun(t, kind, 1), filled(kind)} {
				applied(t, s, x, k, s)
			}
		}
	}
	for _, k := range []string{"0", "/", "z9/", "abcdefghijklmnopqrstuvwxyz012345"} {
		s, y := begun(t, api.Set, 0), made(0, 1, 1, api.Vector{}, api.Op{Kind: api.Add, Key: k, Elem: "x"})
		applied(t, s, y, k, api.State{Kind: api.Set, Live: tags(at(0, 1, 0, "x"))})
	}
}

// P11.1: fields that a kind doesn't name are noughts behind a transaction, whatever they were, also where it has no operation on the key.
func TestOtherFields(t *testing.T) {
	for _, kind := range kinds {
		s := api.State{Kind: kind, N: 5, Ever: []string{"", "x"}, Live: someTags(), Has: true, Stamp: 3, Top: at(2, 1, 0, "x"), Default: true}
		becomes(t, "on the other key", s, plainNamed(s), made(3, 1, 9, api.Vector{}, away(inc(1))))
		for mine := api.Inc; mine <= api.Off; mine++ {
			x := made(3, 1, 9, api.Vector{0, 2}, opOf(mine, 3, "x", 3))
			becomes(t, fmt.Sprint("of kind ", mine), s, plainOp(plainNamed(s), x, 0), x)
		}
	}
}
