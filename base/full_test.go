package base_test

import (
	"fmt"
	"math/rand"
	"testing"

	"levee/api"
	"levee/base"
	"levee/cut"
	"levee/vec"
)

// goodLogs: logs that may be; number 2 of each depends on number 1 of all.
func goodLogs() api.Logs {
	var l api.Logs
	for i := range 5 {
		l = by(i, inc("k/1", 3), add("k/3", "x"), write("k/5", "x"), on("k/7")).stamped(5).behind(l)
	}
	for i := range 5 {
		l = by(i, dec("k/1", 1), remove("k/3", "x"), write("k/5", "y"), off("k/7")).seeing(1, 1, 1, 1, 1).stamped(10).behind(l)
	}
	return l
}

// longLog: so many transactions of member 6.
func longLog(n int) []api.Txn {
	var log []api.Txn
	for k := range uint64(n) {
		log = append(log, made(6, k+1, k+1, api.Vector{}, inc("k/1", 1)))
	}
	return log
}

// A spoilt one: logs that may not be, and what Check says of them.
type spoilt struct {
	name string
	l    api.Logs
	err  api.Errno
}

// spoiltLogs: in each of the ways of chapter 9's Check, and with two faults.
func spoiltLogs() []spoilt {
	long := goodLogs()
	long[6] = longLog(full + 1)
	l := []spoilt{
		{"a log that is too long", long, api.ErrLong},
		{"a log that is too long, behind a gap", changed(long, 0, 0, func(x *api.Txn) { x.Deps[7] = 1 }), api.ErrLong},
		{"a log that is too long, behind one that may not be", changed(long, 0, 0, func(x *api.Txn) { x.Ops = nil }), api.ErrLong},
	}
	gap := changed(goodLogs(), 1, 1, func(x *api.Txn) { x.Deps[7] = 1 })
	l = append(l,
		spoilt{"a gap behind one that may not be", changed(gap, 1, 0, func(x *api.Txn) { x.Ops = nil }), api.ErrTxn},
		spoilt{"a gap ahead of one that may not be", changed(gap, 2, 0, func(x *api.Txn) { x.Ops = nil }), api.ErrGap},
		spoilt{"a gap of one that may not be", changed(gap, 1, 1, func(x *api.Txn) { x.Ops = nil }), api.ErrTxn},
		spoilt{"a gap and a stamp of one", changed(gap, 1, 1, func(x *api.Txn) { x.Deps[0] = 2 }), api.ErrGap},
	)
	for _, f := range []struct {
		name  string
		spoil func(x *api.Txn)
		err   api.Errno
	}{
		{"no operation", func(x *api.Txn) { x.Ops = nil }, api.ErrTxn},
		{"nine operations", func(x *api.Txn) { x.Ops = make([]api.Op, 9) }, api.ErrTxn},
		{"an operation of no kind", func(x *api.Txn) { x.Ops[3].Kind = 9 }, api.ErrTxn},
		{"an operation of nothing", func(x *api.Txn) { x.Ops[0].N = 0 }, api.ErrTxn},
		{"a key that may not be", func(x *api.Txn) { x.Ops[1].Key = "K" }, api.ErrTxn},
		{"no stamp", func(x *api.Txn) { x.Stamp = 0 }, api.ErrTxn},
		{"no number", func(x *api.Txn) { x.Seq = 0 }, api.ErrTxn},
		{"another number", func(x *api.Txn) { x.Seq++; x.Deps[x.Origin]++ }, api.ErrTxn},
		{"other Deps of its own", func(x *api.Txn) { x.Deps[x.Origin]++ }, api.ErrTxn},
		{"another Origin", func(x *api.Txn) { x.Origin = 7; x.Deps[7] = x.Seq - 1 }, api.ErrTxn},
		{"an Origin that is none", func(x *api.Txn) { x.Origin = 8 }, api.ErrTxn},
		{"an Origin below nothing", func(x *api.Txn) { x.Origin = -1 }, api.ErrTxn},
		{"Deps beyond a log", func(x *api.Txn) { x.Deps[(x.Origin+1)%5] = 3 }, api.ErrGap},
		{"Deps of no log", func(x *api.Txn) { x.Deps[7] = 1 }, api.ErrGap},
		{"Deps far beyond", func(x *api.Txn) { x.Deps[6] = top }, api.ErrGap},
		{"a stamp of its Deps", func(x *api.Txn) { x.Deps[(x.Origin+1)%5] = x.Seq }, api.ErrTxn},
		{"a stamp below that of its Deps", func(x *api.Txn) { x.Deps[(x.Origin+1)%5] = 2; x.Stamp = 9 }, api.ErrTxn},
	} {
		for _, at := range [][2]int{{0, 0}, {0, 1}, {2, 0}, {2, 1}, {4, 0}, {4, 1}} {
			name := fmt.Sprint(f.name, " at ", at)
			l = append(l, spoilt{name, changed(goodLogs(), at[0], at[1], f.spoil), f.err})
		}
	}
	return l
}

// fullIs: Full answers the logs with nothing folded.
func fullIs(t *testing.T, name string, l api.Logs) {
	t.Helper()
	got, err := base.Full(l)
	if !sameBase(got, api.Base{Tail: l}) || err != api.OK {
		t.Errorf("%s: Full: %s, %v", name, shown(got), err)
	}
	if size := base.Size(got); size != cut.Size(l) {
		t.Errorf("%s: its size is %v, not %v", name, size, cut.Size(l))
	}
}

// P12.1: Full of logs that may be.
func TestFull(t *testing.T) {
	var empty api.Logs
	for i := range empty {
		empty[i] = []api.Txn{}
	}
	fullIs(t, "no logs", api.Logs{})
	fullIs(t, "empty logs", empty)
	fullIs(t, "good logs", goodLogs())
	l := goodLogs()
	l[6] = longLog(full)
	fullIs(t, "a log as long as may be", l)
	r := rand.New(rand.NewSource(1))
	for range 300 {
		fullIs(t, "by chance", someLogs(r, 1+r.Intn(8), r.Intn(30)))
	}
	for i := range api.MaxMembers {
		fullIs(t, "of one member", story(by(i, inc("k/1", 1)), by(i, dec("k/1", 1))))
	}
}

// P12.1: Full of logs that may not be is Check's error, and nothing.
func TestFullRefuses(t *testing.T) {
	for _, s := range spoiltLogs() {
		if err := cut.Check(s.l); err != s.err {
			t.Errorf("%s: Check: %v, want %v", s.name, err, s.err)
		}
		if got, err := base.Full(s.l); !sameBase(got, api.Base{}) || err != s.err {
			t.Errorf("%s: Full: %s, %v, want %v", s.name, shown(got), err, s.err)
		}
	}
}

// P12.1: what Full is handed stays as it is, and nothing of it is kept.
func TestFullHandedIn(t *testing.T) {
	lists := []api.Logs{{}, goodLogs()}
	for _, s := range spoiltLogs() {
		lists = append(lists, s.l)
	}
	for _, l := range lists {
		var m room
		given := m.logs(l)
		got, err := base.Full(given)
		if !sameLogs(given, l) || !spareLogsKept(given) {
			t.Fatalf("Full changed %+v", l)
		}
		m.change()
		wreckLogs(given)
		if err == api.OK && !sameBase(got, api.Base{Tail: l}) {
			t.Errorf("Full kept what it was handed: %s, of %+v", shown(got), l)
		}
		given = m.logs(l)
		got, _ = base.Full(given)
		wreck(got)
		if !sameLogs(given, l) || !spareLogsKept(given) {
			t.Errorf("what Full answers shares memory with %+v", l)
		}
	}
}

// P12.1: Size is At and the lengths of Tail, member by member, also where they wrap round.
func TestSize(t *testing.T) {
	is := func(name string, b api.Base, want api.Vector) {
		t.Helper()
		if got := base.Size(b); got != want {
			t.Errorf("%s: %v, want %v", name, got, want)
		}
	}
	is("nothing", api.Base{}, api.Vector{})
	is("nothing folded", fulls(t, goodLogs()), api.Vector{2, 2, 2, 2, 2})
	is("all folded", folded(t, fulls(t, goodLogs()), nil, api.Vector{2, 2, 2, 2, 2}), api.Vector{2, 2, 2, 2, 2})
	is("some folded", folded(t, fulls(t, goodLogs()), catalogue(0), api.Vector{2, 1, 1, 1, 1}), api.Vector{2, 2, 2, 2, 2})
	is("At alone", api.Base{At: api.Vector{1, 2, 3, 4, 5, 6, 7, top}}, api.Vector{1, 2, 3, 4, 5, 6, 7, top})
	is("states count nothing", api.Base{Held: []api.Held{{Key: "k/1"}, {Key: "k/2"}}}, api.Vector{})
	for i := range api.MaxMembers {
		var b api.Base
		b.Tail[i] = make([]api.Txn, 5) // whatever they are
		is("a Tail alone", b, one(i, 5))
		for at, want := range map[uint64]uint64{0: 5, 7: 12, 1 << 32: 1<<32 + 5, 1<<63 - 2: 1<<63 + 3, top - 5: top, top - 4: 0, top - 2: 2, top: 4} {
			b.At = all(9)
			b.At[i] = at
			size := all(9)
			size[i] = want
			is("At and a Tail", b, size)
		}
	}
	long := api.Base{At: all(1)}
	long.Tail[3] = make([]api.Txn, 70000) // more than a log may have
	is("a long Tail", long, vec.Join(all(1), one(3, 70001)))
	r := rand.New(rand.NewSource(2))
	for range 2000 {
		b := someBase(r)
		is("by chance", b, plainSize(b))
	}
}

// P12.1: Size changes nothing of what it is handed.
func TestSizeHandedIn(t *testing.T) {
	var m room
	want := folded(t, fulls(t, goodLogs()), catalogue(1), api.Vector{2, 1, 1, 1, 1})
	b := m.base(want)
	base.Size(b)
	if !sameBase(b, want) || !spareKept(b) {
		t.Errorf("Size changed it: %s", shown(b))
	}
}

// P12.1: Frontier is the Meet of all.
func TestFrontier(t *testing.T) {
	is := func(want api.Vector, known ...api.Vector) {
		t.Helper()
		given := roomy(known, all(77))
		if got := base.Frontier(given); got != want {
			t.Errorf("Frontier of %v: %v, want %v", known, got, want)
		}
		for i, v := range known {
			if given[i] != v || behindIt(given) != all(77) {
				t.Errorf("Frontier changed %v to %v", known, given)
			}
		}
	}
	if got := base.Frontier(nil); got != (api.Vector{}) {
		t.Errorf("Frontier of none: %v", got)
	}
	is(api.Vector{})
	is(api.Vector{1, 1}, api.Vector{2, 1}, api.Vector{1, 3})
	for _, v := range []api.Vector{{}, all(top), {1, 2, 3, 4, 5, 6, 7, 8}, {8, 7, 6, 5, 4, 3, 2, 1}, {1 << 63, 1<<63 - 1, top, 0, 1 << 32}} {
		is(v, v)
		is(v, v, v)
		is(v, v, all(top))
		is(v, all(top), v)
		is(api.Vector{}, v, api.Vector{})
		is(api.Vector{}, api.Vector{}, v)
	}
	is(api.Vector{1, 2, 3, 4, 4, 3, 2, 1}, api.Vector{1, 2, 3, 4, 5, 6, 7, 8}, api.Vector{8, 7, 6, 5, 4, 3, 2, 1})
	is(all(3), all(5), all(3), all(4))
	var known []api.Vector
	for i := range api.MaxMembers { // each has the least of one member
		v := all(9)
		v[i] = uint64(i)
		known = append(known, v)
	}
	is(api.Vector{0, 1, 2, 3, 4, 5, 6, 7}, known...)
	r := rand.New(rand.NewSource(3))
	for range 500 {
		var known []api.Vector
		want := all(top)
		for range 1 + r.Intn(9) {
			var v api.Vector
			for i := range v {
				v[i] = r.Uint64() >> r.Intn(64)
				if v[i] < want[i] {
					want[i] = v[i]
				}
			}
			known = append(known, v)
		}
		is(want, known...)
	}
}

// P12.1: what all have may be folded: the Frontier of closed cuts is closed.
func TestFrontierMayBeFolded(t *testing.T) {
	r := rand.New(rand.NewSource(4))
	for range 300 {
		l := someLogs(r, 1+r.Intn(8), r.Intn(30))
		b := fulls(t, l)
		var known []api.Vector
		for range 1 + r.Intn(4) {
			known = append(known, cut.Close(l, someCut(r, b)))
		}
		to := base.Frontier(known)
		if f := folded(t, b, catalogue(1), to); f.At != to {
			t.Errorf("folded to %v, not to %v", f.At, to)
		}
	}
}
