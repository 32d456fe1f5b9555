package cast_test

import (
	"math"
	"slices"
	"strings"
	"testing"

	"levee/api"
	"levee/cast"
	"levee/txn"
)

// good: a transaction that may be, of member 2, with an operation of each kind.
func good() api.Txn {
	return api.Txn{Origin: 2, Seq: 3, Stamp: 4, Deps: api.Vector{1, 5, 2}, Ops: []api.Op{
		{Kind: api.Inc, Key: "a", N: 1}, {Kind: api.Dec, Key: "a", N: 1 << 40}, {Kind: api.Give, Key: "a", Elem: "0", N: 7},
		{Kind: api.Add, Key: "s/1", Elem: "x"}, {Kind: api.Remove, Key: "s/1"}, {Kind: api.Write, Key: "w", Elem: "\x00"},
		{Kind: api.On, Key: "f"},
	}}
}

// A spoilt one is a transaction that may not be.
type spoilt struct {
	name string
	x    api.Txn
}

// spoiltTxns: in each of the ways of chapter 8's Check.
func spoiltTxns() []spoilt {
	var l []spoilt
	put := func(name string, f func(x *api.Txn)) { l = append(l, spoilt{name, with(good(), f)}) }
	for _, origin := range []int{-1, 8, 9, 256, 258, 1<<32 + 2, math.MinInt, math.MaxInt} {
		put("an Origin that is none", func(x *api.Txn) { x.Origin = origin })
	}
	put("another Origin", func(x *api.Txn) { x.Origin = 3 })
	put("no number", func(x *api.Txn) { x.Seq, x.Deps[2] = 0, top })
	put("no number, and none of its own", func(x *api.Txn) { x.Seq, x.Deps[2] = 0, 0 })
	put("another number", func(x *api.Txn) { x.Seq = 4 })
	put("the greatest number", func(x *api.Txn) { x.Seq = top })
	put("no stamp", func(x *api.Txn) { x.Stamp = 0 })
	put("it depends on itself", func(x *api.Txn) { x.Deps[2] = 3 })
	put("it doesn't depend on the one ahead", func(x *api.Txn) { x.Deps[2] = 1 })
	put("no operations", func(x *api.Txn) { x.Ops = nil })
	put("nine operations", func(x *api.Txn) { x.Ops = slices.Repeat(x.Ops[:3], 3) })
	put("nothing at all", func(x *api.Txn) { *x = api.Txn{} })
	for _, o := range spoiltOps() {
		put("an operation at the first place", func(x *api.Txn) { x.Ops[0] = o })
		put("an operation in the middle", func(x *api.Txn) { x.Ops[3] = o })
		put("an operation at the last place", func(x *api.Txn) { x.Ops = append(x.Ops, o) })
	}
	return l
}

// spoiltOps: operations that may not be.
func spoiltOps() []api.Op {
	l := []api.Op{{}, {Key: "a"}, {Kind: 9, Key: "a"}, {Kind: -1, Key: "a"}, {Kind: 1<<32 + 4, Key: "a", Elem: "x"}}
	for _, key := range []string{"", "K", "k.", "k ", "é", "k\x00", strings.Repeat("k", 33)} {
		l = append(l, api.Op{Kind: api.Inc, Key: key, N: 1}, api.Op{Kind: api.Add, Key: key, Elem: "x"})
	}
	for _, n := range []int64{0, -1, 1<<40 + 1, math.MinInt64, math.MaxInt64} {
		l = append(l, api.Op{Kind: api.Inc, Key: "a", N: n}, api.Op{Kind: api.Dec, Key: "a", N: n}, api.Op{Kind: api.Give, Key: "a", Elem: "1", N: n})
		for kind := api.Add; kind <= api.Off && n != 0; kind++ {
			l = append(l, api.Op{Kind: kind, Key: "a", N: n})
		}
	}
	for _, to := range []string{"", "2", "8", "01", "x", "-1", " 1"} {
		l = append(l, api.Op{Kind: api.Give, Key: "a", Elem: to, N: 1})
	}
	for _, kind := range []int{api.Inc, api.Dec} {
		l = append(l, api.Op{Kind: kind, Key: "a", Elem: "x", N: 1})
	}
	for _, kind := range []int{api.On, api.Off} {
		l = append(l, api.Op{Kind: kind, Key: "a", Elem: "x"})
	}
	for _, kind := range []int{api.Add, api.Remove, api.Write} {
		l = append(l, api.Op{Kind: kind, Key: "a", Elem: strings.Repeat("x", 33)})
	}
	return l
}

// P13.1: a transaction that may not be comes ahead of all else: of what is missing, of a clash, of its stamp, of too many that wait.
func TestTxnFirst(t *testing.T) {
	var l api.Logs
	for i := range l {
		l[i] = alone(i, 5)
	}
	inboxes := []api.Inbox{
		{}, // it would wait
		of(l, waiting(4)...),
		of(api.Logs{}, waiting(most)...), // there is no room
		of(api.Logs{}, waiting(100)...),
		of(api.Logs{}, good()), // it would be a clash with what waits
		of(api.Logs{alone(0, 1), alone(1, 5), alone(2, 2)}),  // it would come in, but for its stamp
		of(api.Logs{alone(0, 1), alone(1, 3), alone(2, 2)}),  // it would wait
		of(api.Logs{alone(0, 1), alone(1, 5), alone(2, 12)}), // it would be a clash
	}
	for _, k := range spoiltTxns() {
		if err := txn.Check(k.x); err != api.ErrTxn {
			t.Errorf("%s: Check: %v", k.name, err)
		}
		for _, in := range inboxes {
			refuses(t, k.name, in, k.x, api.ErrTxn)
			refuses(t, k.name+", which is there", of(api.Logs{2: {k.x, k.x, k.x}}, in.Wait...), k.x, api.ErrTxn)
			refuses(t, k.name+", which waits", of(in.Logs, k.x), k.x, api.ErrTxn)
		}
	}
	if err := txn.Check(good()); err != api.OK {
		t.Fatal("Check of the good one:", err)
	}
	holds(t, "the good one", api.Inbox{}, good(), 0)
	holds(t, "the good one", inboxes[6], good(), 0)
	refuses(t, "the good one", inboxes[5], good(), api.ErrTxn)
	refuses(t, "the good one", inboxes[7], good(), api.ErrClash)
	refuses(t, "the good one", inboxes[2], good(), api.ErrFull)
}

// P13.1: cut.Add's other errors, and which of two comes first: beside one that is missing only a clash is told.
func TestAddsErrors(t *testing.T) {
	l := api.Logs{3: alone(3, 4), 6: alone(6, full)}
	for _, wait := range [][]api.Txn{nil, waiting(5), waiting(most), waiting(most + 9)} {
		in := of(l, wait...)
		refuses(t, "another one that is there", in, at(3, 4, 99, api.Vector{}), api.ErrClash)
		refuses(t, "another one of a full log", in, unlike(l[6][full-1]), api.ErrClash)
		refuses(t, "another one, something missing", in, at(3, 2, 99, one(7, 1)), api.ErrClash)
		refuses(t, "another one, an early stamp", in, at(3, 4, 1, api.Vector{}), api.ErrClash)
		refuses(t, "its own last one's stamp", in, at(3, 5, 4, api.Vector{}), api.ErrTxn)
		refuses(t, "a stamp below its own last one's", in, at(3, 5, 1, api.Vector{}), api.ErrTxn)
		refuses(t, "another member's stamp", in, at(0, 1, full, one(6, full)), api.ErrTxn)
		refuses(t, "a full log", in, at(6, full+1, full+1, api.Vector{}), api.ErrFull)
		refuses(t, "a full log, an early stamp", in, at(6, full+1, full, api.Vector{}), api.ErrTxn)
		x := at(0, 1, full+1, one(6, full))
		answers(t, "just behind another member's stamp", in, x, of(api.Logs{0: {x}, 3: l[3], 6: l[6]}, wait...), 1, api.OK)
		missing := []api.Txn{
			at(3, 5, 1, one(7, 1)),              // an early stamp, too
			at(6, full+1, full+1, one(7, 1)),    // a full log, too
			at(6, full+2, full+2, one(3, 4)),    // behind a gap of a full log
			at(3, 7, 1, api.Vector{}),           // its own number 5
			at(0, 1, full+1, one(6, full+1)),    // one beyond the full log
			at(3, 5, 99, one(6, top)),           // far beyond it
			at(7, 1<<63+1, 99, api.Vector{}),    // far beyond its own
			at(7, 1, 99, one(0, 1)),             // of a member that has none
			at(0, 1, 1, api.Vector{0, 1 << 32}), // no bits are lost
		}
		for _, x := range missing {
			if len(wait) < most {
				got, n, err := cast.Receive(in, x)
				if n != 0 || err != api.OK || len(got.Wait) != len(wait)+1 || !sameLogs(got.Logs, l) {
					t.Errorf("Receive of %+v: %s, %d, %v", x, shown(got), n, err)
				}
			} else {
				refuses(t, "missing, and no room", in, x, api.ErrFull)
			}
		}
	}
}

// P13.1: logs that may not be: nothing is asked of them but what cut.Add asks.
func TestWrongLogs(t *testing.T) {
	odd := api.Logs{1: {at(5, 9, 4, one(0, top)), {Origin: -7, Stamp: 8}}, 4: make([]api.Txn, full+3)}
	x := at(1, 3, 9, api.Vector{})
	want := odd
	want[1] = append(slices.Clone(odd[1]), x)
	answers(t, "behind such that may not be", of(odd), x, of(want), 1, api.OK)
	refuses(t, "the stamp of such that may not be", of(odd), at(1, 3, 8, api.Vector{}), api.ErrTxn)
	refuses(t, "the place of such that may not be", of(odd), at(1, 1, 4, api.Vector{}), api.ErrClash)
	refuses(t, "a log that is too long", of(odd), at(4, full+4, 1, api.Vector{}), api.ErrFull)
	holds(t, "far behind a log that is too long", of(odd), at(4, full+5, 1, api.Vector{}), 0)
	y := at(0, 1, 1, one(4, full+3))
	want = odd
	want[0] = []api.Txn{y}
	answers(t, "it depends on a log that is too long", of(odd), y, of(want), 1, api.OK)
	want[1] = append(slices.Clone(odd[1]), x)
	over := at(4, full+4, 1, api.Vector{})
	answers(t, "some wait", of(odd, unlike(y), over, x, at(1, 1, 99, api.Vector{})), y, of(want), 2, api.OK)
	late := api.Logs{2: {at(2, 3, 4, api.Vector{})}} // number 3 at the first place
	holds(t, "number 3, which is at the first place", of(late), late[2][0], 0)
	holds(t, "number 3, which is at the first place", of(late, late[2][0]), at(2, 4, 9, api.Vector{}), 1)
	refuses(t, "number 1, where number 3 is", of(late), at(2, 1, 4, api.Vector{}), api.ErrClash)
}
