package cut_test

import (
	"fmt"
	"slices"
	"testing"

	"levee/api"
	"levee/cut"
	"levee/txn"
)

// pairOf: the chapter's logs: {0, 1}, and {1, 1} that depends on it.
func pairOf() api.Logs {
	return api.Logs{{at(0, 1, 1, api.Vector{})}, {at(1, 1, 2, api.Vector{1})}}
}

// P9.1: the chapter's example.
func TestExamples(t *testing.T) {
	l := pairOf()
	closes(t, "the example", l, api.Vector{0, 1}, api.Vector{})
	closes(t, "the example", l, api.Vector{1, 1}, api.Vector{1, 1})
	closes(t, "the example", l, api.Vector{1}, api.Vector{1})
	closes(t, "the example", l, api.Vector{}, api.Vector{})
	checks(t, "the example", l, api.OK)
	lists(t, "the example's order", cut.Order(l, all(1)), []api.Txn{l[0][0], l[1][0]})
}

// P9.1: no transactions at all, whatever the cut.
func TestNothing(t *testing.T) {
	var empty api.Logs
	for i := range empty {
		empty[i] = []api.Txn{}
	}
	for _, l := range []api.Logs{{}, empty} {
		if cut.Size(l) != (api.Vector{}) || !none(cut.Copy(l)) {
			t.Error("Size, Copy:", cut.Size(l), cut.Copy(l))
		}
		checks(t, "nothing", l, api.OK)
		for _, v := range []api.Vector{{}, all(1), all(top), all(1 << 63), one(0, 1), one(7, 1), one(3, top)} {
			if got := cut.Stamp(l, v); got != 0 {
				t.Errorf("Stamp of %v: %d", v, got)
			}
			closes(t, "nothing", l, v, api.Vector{})
			lists(t, "Order", cut.Order(l, v), nil)
			for _, most := range []int{0, 1, -1, full} {
				lists(t, "Missing", cut.Missing(l, v, most), nil)
			}
		}
		for member := range api.MaxMembers {
			first := at(member, 1, 1, api.Vector{})
			adds(t, "the first one", l, first, with(api.Logs{}, member, first), api.OK)
		}
	}
}

// P9.1: Size of each member's log.
func TestSize(t *testing.T) {
	var l api.Logs
	want := api.Vector{3, 0, 1, 1024, 1025, 2, 0, 7}
	for i, n := range want {
		l[i] = alone(i, int(n))
	}
	if got := cut.Size(l); got != want {
		t.Errorf("Size: %v", got)
	}
	for i := range api.MaxMembers {
		if got := cut.Size(with(api.Logs{}, i, alone(i, i+1)...)); got != one(i, uint64(i+1)) {
			t.Errorf("Size of member %d's log alone: %v", i, got)
		}
	}
}

// P9.1: Stamp is of the last transactions alone, each member's, and counts none of a member whose log is shorter.
func TestStamp(t *testing.T) {
	var l api.Logs // its stamps don't rise
	for i := range l {
		for k, stamp := range []uint64{50, 10, 30, 1 << 63, 0} {
			l[i] = append(l[i], at(i, uint64(k+1), stamp+uint64(i), api.Vector{}))
		}
	}
	for i := range l {
		base := uint64(i)
		for k, want := range []uint64{0, 50 + base, 10 + base, 30 + base, 1<<63 + base, base, 0, 0} {
			if got := cut.Stamp(l, one(i, uint64(k))); got != want {
				t.Errorf("Stamp of %d of member %d: %d, want %d", k, i, got, want)
			}
			v := all(2)
			v[i] = uint64(k)
			if got := cut.Stamp(l, v); got != plainStamp(l, v) {
				t.Errorf("Stamp of %v: %d, want %d", v, got, plainStamp(l, v))
			}
		}
		for _, n := range []uint64{6, 7, 1024, 1 << 32, 1<<32 + 1, 1 << 63, 1<<63 + 1, top} {
			if got := cut.Stamp(l, one(i, n)); got != 0 {
				t.Errorf("Stamp of %d of member %d, who has 5: %d", n, i, got)
			}
			v := one((i+1)%8, 2)
			v[i] = n
			if got := cut.Stamp(l, v); got != l[(i+1)%8][1].Stamp {
				t.Errorf("Stamp of %v: %d", v, got)
			}
		}
	}
}

// grid: logs that may be, of the first five members, 5 each: number k has the stamp 10 k, and depends on all with lesser stamps.
func grid() api.Logs {
	var l api.Logs
	for i := range 5 {
		for k := range uint64(5) {
			l[i] = append(l[i], at(i, k+1, 10*(k+1), api.Vector{k, k, k, k, k}))
		}
	}
	return l
}

// A fault spoils the transaction of a member and a place of the grid, and nothing else.
type fault struct {
	name  string
	err   api.Errno
	spoil func(x *api.Txn, member, place int)
}

func faults() []fault {
	next := func(member int) int { return (member + 1) % 5 }
	return []fault{
		{"no operation", api.ErrTxn, func(x *api.Txn, _, _ int) { x.Ops = nil }},
		{"an operation that may not be", api.ErrTxn, func(x *api.Txn, _, _ int) { x.Ops[0].N = 0 }},
		{"no stamp", api.ErrTxn, func(x *api.Txn, _, _ int) { x.Stamp = 0 }},
		{"own Deps that may not be", api.ErrTxn, func(x *api.Txn, member, _ int) { x.Deps[member]++ }},
		{"another Origin", api.ErrTxn, func(x *api.Txn, member, _ int) { x.Origin = next(member) }},
		{"an Origin that is none", api.ErrTxn, func(x *api.Txn, _, _ int) { x.Origin = 8 }},
		{"Deps of the next member one beyond its log", api.ErrGap, func(x *api.Txn, member, _ int) { x.Deps[next(member)] = 6 }},
		{"Deps of a member without a log", api.ErrGap, func(x *api.Txn, _, _ int) { x.Deps[7] = 1 }},
		{"Deps far beyond the log", api.ErrGap, func(x *api.Txn, member, _ int) { x.Deps[next(member)] = top }},
		{"a stamp equal to that of a last one of its Deps", api.ErrTxn, func(x *api.Txn, member, place int) { x.Deps[next(member)] = uint64(place + 1) }},
		{"a stamp below that of a last one of its Deps", api.ErrTxn, func(x *api.Txn, member, place int) { x.Deps[next(member)] = uint64(place + 2) }},
	}
}

// spoilt: the grid with a fault.
func spoilt(l api.Logs, f fault, member, place int) api.Logs {
	return changed(l, member, place, func(x *api.Txn) { f.spoil(x, member, place) })
}

// P9.1: each fault alone, at each place.
func TestOneFault(t *testing.T) {
	checks(t, "the grid", grid(), api.OK)
	for _, f := range faults() {
		for member := range 5 {
			for place := range 4 {
				checks(t, fmt.Sprintf("%s at %d.%d", f.name, member, place), spoilt(grid(), f, member, place), f.err)
			}
		}
	}
}

// P9.1: of two faults at two places the one of the first log, and there of the first place, is told.
func TestTwoFaults(t *testing.T) {
	l := grid()
	for _, f := range faults() {
		for _, g := range faults() {
			for p := range 20 {
				for q := p + 1; q < 20; q++ {
					both := spoilt(spoilt(l, f, p/4, p%4), g, q/4, q%4)
					if err := cut.Check(both); err != f.err {
						t.Fatalf("%s at %d.%d, %s at %d.%d: %v", f.name, p/4, p%4, g.name, q/4, q%4, err)
					}
				}
			}
		}
	}
}

// P9.1: of several faults of one transaction: it may not be or stands at a wrong place, then a gap, then its stamp.
func TestSeveralFaultsOfOne(t *testing.T) {
	l := faults()
	gap, early := l[6], l[9]
	for member := range 5 {
		for place := range 4 {
			for _, f := range l[:6] {
				got := spoilt(spoilt(grid(), gap, member, place), f, member, place)
				checks(t, f.name+" and a gap", got, api.ErrTxn)
			}
			got := changed(grid(), member, place, func(x *api.Txn) {
				x.Deps[(member+1)%5], x.Deps[(member+2)%5] = 6, uint64(place+1)
			})
			checks(t, "a gap and a stamp", got, api.ErrGap)
			got = changed(grid(), member, place, func(x *api.Txn) {
				x.Deps[(member+1)%5], x.Deps[7] = uint64(place+2), top
			})
			checks(t, "a stamp and a gap", got, api.ErrGap)
			checks(t, "a stamp and no operation", spoilt(spoilt(grid(), early, member, place), l[0], member, place), api.ErrTxn)
		}
	}
}

// P9.1: a transaction that may be, at a wrong place by its Seq or its Origin alone.
func TestWrongPlace(t *testing.T) {
	for i := range api.MaxMembers {
		first, second := at(i, 1, 1, api.Vector{}), at(i, 2, 2, api.Vector{})
		again := at(i, 1, 9, api.Vector{}) // nothing else is wrong with it at the second place
		checks(t, "number 1 twice", with(api.Logs{}, i, first, again), api.ErrTxn)
		checks(t, "number 1 at the third place", with(api.Logs{}, i, first, second, again), api.ErrTxn)
		checks(t, "number 2 twice", with(api.Logs{}, i, first, second, at(i, 2, 9, api.Vector{})), api.ErrTxn)
		checks(t, "number 2 alone", with(api.Logs{}, i, second), api.ErrTxn)
		checks(t, "number 2 alone, with Deps beyond the logs", with(api.Logs{}, i, at(i, 2, 2, one((i+1)%8, 1))), api.ErrTxn)
		checks(t, "two the other way round", with(api.Logs{}, i, second, first), api.ErrTxn)
		checks(t, "number 3 behind 1", with(api.Logs{}, i, first, at(i, 3, 3, api.Vector{})), api.ErrTxn)
		checks(t, "two in order", with(api.Logs{}, i, first, second), api.OK)
		for j := range api.MaxMembers {
			want := api.ErrTxn
			if j == i {
				want = api.OK
			}
			checks(t, "another member's first one", with(api.Logs{}, j, first), want)
		}
		for _, seq := range []uint64{1 << 32, 1<<32 + 1, 1<<63 + 1, top} {
			checks(t, "a great number", with(api.Logs{}, i, at(i, seq, 9, api.Vector{})), api.ErrTxn)
		}
	}
}

// P9.1: Deps within the logs and beyond them, of each member on each other.
func TestGaps(t *testing.T) {
	for i := range api.MaxMembers {
		for j := range api.MaxMembers {
			if i == j {
				continue
			}
			l := with(api.Logs{}, j, alone(j, 3)...)
			for n, want := range []api.Errno{api.OK, api.OK, api.OK, api.OK, api.ErrGap, api.ErrGap} {
				x := at(i, 1, 9, one(j, uint64(n)))
				checks(t, fmt.Sprintf("%d on %d of %d, who has 3", i, n, j), with(l, i, x), want)
				if want != api.OK {
					refuses(t, "beyond", l, x, want)
				} else {
					adds(t, "within", l, x, with(l, i, x), api.OK)
				}
			}
			for _, n := range []uint64{1 << 31, 1 << 32, 1<<32 + 1, 1 << 63, 1<<63 + 1, top} {
				x := at(i, 1, top, one(j, n))
				checks(t, "far beyond", with(l, i, x), api.ErrGap)
				refuses(t, "far beyond", l, x, api.ErrGap)
			}
		}
	}
}

// P9.1: a stamp has to be greater than those of the last transactions of its Deps, its own log's too.
func TestStamps(t *testing.T) {
	for _, last := range []uint64{1, 2, 7, 1 << 32, 1<<63 - 1, 1 << 63, top - 1} {
		for i := range api.MaxMembers {
			for j := range api.MaxMembers {
				l := with(api.Logs{}, j, at(j, 1, last, api.Vector{}))
				seq := uint64(1)
				if i == j {
					seq = 2
				}
				for _, stamp := range []uint64{1, last - 1, last, last + 1, top} {
					want := api.OK
					if stamp <= last {
						want = api.ErrTxn
					}
					x := at(i, seq, stamp, one(j, 1))
					full := with(l, i, append(slices.Clone(l[i]), x)...)
					checks(t, fmt.Sprintf("%d's stamp %d behind %d's %d", i, stamp, j, last), full, want)
					if want == api.OK {
						adds(t, "a stamp", l, x, full, api.OK)
					} else {
						refuses(t, "a stamp", l, x, want)
					}
				}
			}
		}
	}
	greatest := with(api.Logs{}, 3, at(3, 1, top, api.Vector{}))
	checks(t, "the greatest stamp", greatest, api.OK)
	refuses(t, "behind the greatest stamp", greatest, at(3, 2, top, api.Vector{}), api.ErrTxn)
	refuses(t, "behind the greatest stamp, wrapped round", greatest, at(3, 2, 1, api.Vector{}), api.ErrTxn)
}

// P9.1: the stamps of what it doesn't depend on, or not as the last, don't matter.
func TestOtherStamps(t *testing.T) {
	l := with(api.Logs{}, 1, at(1, 1, 5, api.Vector{}), at(1, 2, 50, api.Vector{}), at(1, 3, 500, api.Vector{}))
	l = with(l, 2, at(2, 1, 1000, api.Vector{}))
	for n, last := range []uint64{0, 5, 50, 500} {
		x := at(0, 1, last+1, one(1, uint64(n)))
		adds(t, "just above", l, x, with(l, 0, x), api.OK)
		checks(t, "just above", with(l, 0, x), api.OK)
		if n > 0 {
			x.Stamp = last
			refuses(t, "equal", l, x, api.ErrTxn)
		}
	}
	old := with(api.Logs{}, 1, at(1, 1, 50, api.Vector{}), at(1, 2, 5, api.Vector{})) // they may not be: the last one counts
	x := at(0, 1, 6, one(1, 2))
	adds(t, "the last one's stamp is less than the first one's", old, x, with(old, 0, x), api.OK)
}

// P9.1: MaxTxns transactions are taken, one more is refused, ahead of all else.
func TestTooLong(t *testing.T) {
	for i := range api.MaxMembers {
		l := with(api.Logs{}, i, alone(i, full)...)
		checks(t, "a full log", l, api.OK)
		long := with(api.Logs{}, i, alone(i, full+1)...)
		checks(t, "a log too long", long, api.ErrLong)
		for _, f := range faults() {
			both := long
			both[i] = slices.Clone(long[i])
			f.spoil(&both[i][0], i, 0)
			checks(t, "a log too long and "+f.name, both, api.ErrLong)
			spoilt := with(long, (i+1)%8, at((i+1)%8, 1, 1, api.Vector{}))
			f.spoil(&spoilt[(i+1)%8][0], (i+1)%8, 0)
			checks(t, "a log too long, and elsewhere "+f.name, spoilt, api.ErrLong)
		}
		checks(t, "too many that are nothing", with(api.Logs{}, i, make([]api.Txn, full+1)...), api.ErrLong)
		checks(t, "just so many that are nothing", with(api.Logs{}, i, make([]api.Txn, full)...), api.ErrTxn)
	}
	var every api.Logs
	for i := range every {
		every[i] = alone(i, full)
	}
	checks(t, "eight full logs", every, api.OK)
	last := changed(every, 7, full-1, func(x *api.Txn) { x.Deps[0] = full + 1 })
	checks(t, "the very last one beyond the logs", last, api.ErrGap)
	checks(t, "the very last one without operations", changed(every, 7, full-1, func(x *api.Txn) { x.Ops = nil }), api.ErrTxn)
}

// P9.1: Add behind each log, of what is there, of another one of its number, of gaps.
func TestAdd(t *testing.T) {
	l := grid()
	for i := range api.MaxMembers {
		size := uint64(len(l[i]))
		x := at(i, size+1, 60, api.Vector{5, 5, 5, 5, 5})
		adds(t, "the next one", l, x, with(l, i, append(slices.Clone(l[i]), x)...), api.OK)
		x.Deps = one(i, size)
		adds(t, "the next one, by itself", l, x, with(l, i, append(slices.Clone(l[i]), x)...), api.OK)
		for k, there := range l[i] {
			adds(t, "one that is there", l, there, l, api.OK)
			for name, other := range others(there) {
				if txn.Check(other) != api.OK {
					refuses(t, "another one that may not be: "+name, l, other, api.ErrTxn)
				} else if other.Origin == i && other.Seq == uint64(k+1) {
					refuses(t, "another one of its number: "+name, l, other, api.ErrClash)
				}
			}
		}
		for _, seq := range []uint64{size + 2, size + 3, full, full + 1, full + 2, 1 << 32, 1<<32 + 1, 1 << 63, 1<<63 + 1, top} {
			refuses(t, "a gap", l, at(i, seq, 99, api.Vector{}), api.ErrGap)
		}
		refuses(t, "nothing", l, api.Txn{}, api.ErrTxn)
		refuses(t, "no member", l, api.Txn{Origin: 8, Seq: 1, Stamp: 1, Ops: x.Ops}, api.ErrTxn)
		refuses(t, "no member", l, api.Txn{Origin: -1, Seq: 1, Stamp: 1, Ops: x.Ops}, api.ErrTxn)
		refuses(t, "number 0", l, at(i, 0, 60, api.Vector{}), api.ErrTxn)
	}
}

// others: the transaction with one thing changed, each in turn.
func others(x api.Txn) map[string]api.Txn {
	l := map[string]api.Txn{}
	put := func(name string, f func(y *api.Txn)) {
		y := txn.Copy(x)
		f(&y)
		l[name] = y
	}
	put("Stamp above", func(y *api.Txn) { y.Stamp++ })
	put("Stamp below", func(y *api.Txn) { y.Stamp-- })
	put("the first Stamp", func(y *api.Txn) { y.Stamp = 1 })
	for i := range x.Deps {
		put(fmt.Sprint("Deps more ", i), func(y *api.Txn) { y.Deps[i]++ })
		put(fmt.Sprint("Deps top ", i), func(y *api.Txn) { y.Deps[i] = top })
		put(fmt.Sprint("Deps none ", i), func(y *api.Txn) { y.Deps[i] = 0 })
	}
	put("N", func(y *api.Txn) { y.Ops[0].N++ })
	put("Kind", func(y *api.Txn) { y.Ops[0].Kind = api.Dec })
	put("Key", func(y *api.Txn) { y.Ops[0].Key = "b" })
	put("Elem", func(y *api.Txn) { y.Ops[0].Elem = "x" })
	put("two operations", func(y *api.Txn) { y.Ops = append(y.Ops, y.Ops[0]) })
	put("no operations", func(y *api.Txn) { y.Ops = nil })
	delete(l, "Deps none "+fmt.Sprint(x.Origin))
	for name, y := range l {
		if txn.Same(x, y) {
			delete(l, name)
		}
	}
	return l
}

// P9.1: which of Add's errors comes first.
func TestAddFirst(t *testing.T) {
	l := with(grid(), 6, alone(6, full)...)
	there := l[6][full-1]
	adds(t, "a full log has it already", l, there, l, api.OK)
	bad := txn.Copy(there)
	bad.Ops[0].N = -1
	refuses(t, "another one, which may not be", l, bad, api.ErrTxn)
	refuses(t, "another one of a full log", l, at(6, full, full+7, api.Vector{}), api.ErrClash)
	refuses(t, "another one, with Deps beyond the logs", l, at(6, full, full, one(7, 1)), api.ErrClash)
	refuses(t, "another one, with an early stamp", l, at(6, full, 1, api.Vector{}), api.ErrClash)
	refuses(t, "Deps beyond the logs, an operation that may not be", l, api.Txn{Origin: 6, Seq: full + 1, Stamp: 9999, Deps: api.Vector{0, 0, 0, 0, 0, 0, full, 1}}, api.ErrTxn)
	refuses(t, "Deps beyond the logs, an early stamp", l, at(6, full+1, 1, one(7, 1)), api.ErrGap)
	refuses(t, "Deps beyond the logs, a full log", l, at(6, full+1, full+1, one(7, 1)), api.ErrGap)
	refuses(t, "number behind a gap of a full log", l, at(6, full+2, full+2, api.Vector{}), api.ErrGap)
	refuses(t, "an early stamp, a full log", l, at(6, full+1, full, api.Vector{}), api.ErrTxn)
	refuses(t, "a full log", l, at(6, full+1, full+1, api.Vector{}), api.ErrFull)
	x := at(7, 1, full+1, one(6, full))
	adds(t, "another log has room", l, x, with(l, 7, x), api.OK)
	room := with(api.Logs{}, 6, alone(6, full-1)...)
	adds(t, "the last one that has room", room, at(6, full, full, api.Vector{}), with(api.Logs{}, 6, alone(6, full)...), api.OK)
}

// P9.1: Add looks at nothing of the logs but the transaction's number, its Deps and their stamps.
func TestAddToWrongLogs(t *testing.T) {
	long := with(api.Logs{}, 2, make([]api.Txn, full+1)...)
	x := at(0, 1, 1, one(2, full+1))
	adds(t, "a log that is too long, of nothings", long, x, with(long, 0, x), api.OK)
	refuses(t, "a log that is too long", long, at(2, full+2, 1, api.Vector{}), api.ErrFull)
	refuses(t, "a log that is too long", long, at(2, full+1, 1, api.Vector{}), api.ErrClash)
	for i := range api.MaxMembers {
		odd := with(api.Logs{}, i, at(5, 9, 4, all(top)), api.Txn{Origin: -7, Stamp: 8})
		next := at(i, 3, 9, api.Vector{})
		adds(t, "behind such that may not be", odd, next, with(odd, i, append(slices.Clone(odd[i]), next)...), api.OK)
		refuses(t, "behind such that may not be", odd, at(i, 3, 8, api.Vector{}), api.ErrTxn)
		refuses(t, "the place of one that may not be", odd, at(i, 1, 9, api.Vector{}), api.ErrClash)
		refuses(t, "the place of one that may not be", odd, at(i, 2, 9, api.Vector{}), api.ErrClash)
		late := with(api.Logs{}, i, at(i, 3, 4, api.Vector{})) // number 3 at the first place
		refuses(t, "number 3, which is at the first place", late, late[i][0], api.ErrGap)
	}
}

// P9.1: Closed and Close of cuts beyond the logs, and of the greatest numbers.
func TestBeyond(t *testing.T) {
	l := grid()
	size := api.Vector{5, 5, 5, 5, 5}
	closes(t, "the whole", l, size, size)
	closes(t, "the greatest numbers", l, all(top), size)
	closes(t, "nothing", l, api.Vector{}, api.Vector{})
	for i := range api.MaxMembers {
		for _, n := range []uint64{6, 7, 1024, 1 << 31, 1 << 32, 1<<32 + 1, 1 << 63, 1<<63 + 1, top} {
			v := size
			v[i] = n
			closes(t, "one member beyond", l, v, size)
			lists(t, "Order beyond", cut.Order(l, v), plainOrder(l, size))
			if v = one(i, n); i < 5 {
				closes(t, "one member beyond, alone", l, v, one(i, 1))
			} else {
				closes(t, "a member without a log", l, v, api.Vector{})
			}
		}
	}
}

// P9.2: one that depends on a member's number, of each member on each other: within the cut, and one beyond it.
func TestCloseEach(t *testing.T) {
	for i := range api.MaxMembers {
		for j := range api.MaxMembers {
			if i == j {
				continue
			}
			l := with(with(api.Logs{}, j, alone(j, 4)...), i, at(i, 1, 9, api.Vector{}), at(i, 2, 10, one(j, 3)), at(i, 3, 11, api.Vector{}))
			for n := range uint64(5) {
				for k := range uint64(4) {
					v, want := one(j, n), one(j, n)
					v[i], want[i] = k, k
					if n < 3 {
						want[i] = min(k, 1) // number 3 stands behind number 2, though it doesn't say so of j
					}
					closes(t, fmt.Sprintf("%d of %d and %d of %d", k, i, n, j), l, v, want)
				}
			}
		}
	}
}

// P9.2: Deps that aren't closed by themselves: one cut falls by what another one loses.
func TestCloseFalls(t *testing.T) {
	var l api.Logs // member i's one depends on member i + 1's alone
	for i := range l {
		l[i] = []api.Txn{at(i, 1, uint64(8-i), api.Vector{})}
		if i < 7 {
			l[i][0].Deps[i+1] = 1
		}
	}
	checks(t, "a row", l, api.OK)
	closes(t, "a row", l, all(1), all(1))
	for i := range l {
		v := all(1)
		v[i] = 0
		want := all(1)
		for j := range i + 1 {
			want[j] = 0
		}
		closes(t, "a row with one less", l, v, want)
	}
}

// ring: n transactions each, number k depending on the next member's number k, the last member's on the first one's number k + 1.
func ring(n int) api.Logs {
	var l api.Logs
	for i := range l {
		for k := range uint64(n) {
			l[i] = append(l[i], at(i, k+1, 1, one((i+1)%8, k+1+uint64(i)/7)))
		}
	}
	return l
}

// P9.2: a cut that falls by one transaction at a time, to nothing.
func TestCloseFallsFar(t *testing.T) {
	for _, n := range []int{1, 2, 40, full} {
		l, size := ring(n), all(uint64(n))
		closes(t, "a ring that wants one more", l, all(top), api.Vector{})
		closes(t, "a ring that wants one more", l, size, api.Vector{})
		l[7][n-1].Deps[0]--
		closes(t, "a ring", l, size, size)
		closes(t, "a ring", l, all(top), size)
		for i := range l {
			v := size
			v[i]--
			closes(t, "a ring without one", l, v, api.Vector{})
			closes(t, "a ring of one member", l, one(i, top), api.Vector{})
		}
	}
}

// P9.1: logs that may not be: Closed and Close go by Deps alone, their own too.
func TestCloseOfWrongLogs(t *testing.T) {
	x := func(deps api.Vector) api.Txn { return api.Txn{Origin: -3, Deps: deps} }
	for i := range api.MaxMembers {
		l := with(api.Logs{}, i, x(one(i, 2)), x(api.Vector{}), x(one(i, 3)), x(one(i, 5)))
		for n, want := range []uint64{0, 0, 2, 3, 3, 3} {
			closes(t, "Deps on what stands behind", l, one(i, uint64(n)), one(i, min(want, uint64(n))))
		}
		l = with(api.Logs{}, i, x(one(i, top)))
		closes(t, "Deps beyond all", l, one(i, 1), api.Vector{})
		closes(t, "Deps beyond all", l, all(top), api.Vector{})
		l = with(api.Logs{}, i, make([]api.Txn, full+3)...)
		closes(t, "a log that is too long, of nothings", l, all(top), one(i, full+3))
		closes(t, "a log that is too long, of nothings", l, one(i, full+2), one(i, full+2))
		lists(t, "a log that is too long, of nothings", cut.Order(l, all(top)), make([]api.Txn, full+3))
		lists(t, "a log that is too long, of nothings", cut.Order(l, one(i, full+2)), make([]api.Txn, full+2))
		lists(t, "a log that is too long, of nothings", cut.Missing(l, all(top), full+2), make([]api.Txn, full+2))
		for j := range api.MaxMembers {
			if i != j {
				l = with(with(api.Logs{}, i, x(one(j, 1))), j, x(one(i, 1)))
				closes(t, "on each other", l, all(1), api.Vector(plainSize(l)))
				closes(t, "on each other", l, one(i, 1), api.Vector{})
				closes(t, "on each other", l, one(j, 7), api.Vector{})
			}
		}
	}
}
