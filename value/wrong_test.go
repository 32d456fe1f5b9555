package value_test

import (
	"fmt"
	"math"
	"testing"

	"levee/api"
	"levee/cut"
	"levee/value"
)

// wrongKinds are none of the eight, though some are one where a number is cut off.
func wrongKinds() []int {
	return []int{0, 9, 10, 11, -1, -2, -8, 255, 256, 257, 264, 1<<16 + 3, 1 << 32, 1<<32 + 1, 1<<32 + 8, -1<<32 + 5, math.MaxInt, math.MinInt, math.MinInt + 1}
}

// goodLogs: logs that may be, in which much happens to the key; number 2 of each depends on number 1 of all.
func goodLogs() api.Logs {
	var l api.Logs
	for i := range 5 {
		l = by(i, inc(3), add("x"), write("x"), on()).stamped(5).behind(l)
	}
	for i := range 5 {
		l = by(i, dec(1), remove("x"), write("y"), off()).seeing(1, 1, 1, 1, 1).stamped(10).behind(l)
	}
	return l
}

// A spoilt one: logs that may not be, and what Check says of them.
type spoilt struct {
	name string
	l    api.Logs
	err  api.Errno
}

// spoiltLogs: in each of the ways of chapter 9's Check, at the ends of the logs and within them.
func spoiltLogs() []spoilt {
	long := goodLogs()
	for k := range uint64(full + 1) {
		long[6] = append(long[6], api.Txn{Origin: 6, Seq: k + 1, Stamp: k + 1, Deps: api.Vector{6: k}, Ops: []api.Op{inc(1)}})
	}
	l := []spoilt{{"a log that is too long", long, api.ErrLong}}
	longer := changed(long, 0, 0, func(x *api.Txn) { x.Deps[7] = 1 })
	l = append(l, spoilt{"a log that is too long, behind a gap", longer, api.ErrLong})
	for _, f := range []struct {
		name  string
		spoil func(x *api.Txn)
		err   api.Errno
	}{
		{"no operation", func(x *api.Txn) { x.Ops = nil }, api.ErrTxn},
		{"nine operations", func(x *api.Txn) { x.Ops = make([]api.Op, 9) }, api.ErrTxn},
		{"an operation of no kind", func(x *api.Txn) { x.Ops[3].Kind = 9 }, api.ErrTxn},
		{"an operation of nothing", func(x *api.Txn) { x.Ops[0].N = 0 }, api.ErrTxn},
		{"a key that may not be", func(x *api.Txn) { x.Ops[1].Key = "K" }, api.ErrTxn},
		{"no stamp", func(x *api.Txn) { x.Stamp = 0 }, api.ErrTxn},
		{"no number", func(x *api.Txn) { x.Seq = 0 }, api.ErrTxn},
		{"another number", func(x *api.Txn) { x.Seq++; x.Deps[x.Origin]++ }, api.ErrTxn},
		{"other Deps of its own", func(x *api.Txn) { x.Deps[x.Origin]++ }, api.ErrTxn},
		{"another Origin", func(x *api.Txn) { x.Origin = 7; x.Deps[7] = x.Seq - 1 }, api.ErrTxn},
		{"an Origin that is none", func(x *api.Txn) { x.Origin = 8 }, api.ErrTxn},
		{"an Origin below nothing", func(x *api.Txn) { x.Origin = -1 }, api.ErrTxn},
		{"Deps beyond a log", func(x *api.Txn) { x.Deps[(x.Origin+1)%5] = 3 }, api.ErrGap},
		{"Deps of no log", func(x *api.Txn) { x.Deps[7] = 1 }, api.ErrGap},
		{"Deps far beyond", func(x *api.Txn) { x.Deps[6] = top }, api.ErrGap},
		{"a stamp of its Deps", func(x *api.Txn) { x.Deps[(x.Origin+1)%5] = x.Seq }, api.ErrTxn},
		{"a stamp below that of its Deps", func(x *api.Txn) { x.Deps[(x.Origin+1)%5] = 2; x.Stamp = 9 }, api.ErrTxn},
	} {
		for _, at := range [][2]int{{0, 0}, {0, 1}, {2, 0}, {2, 1}, {4, 0}, {4, 1}} {
			name := fmt.Sprint(f.name, " at ", at)
			l = append(l, spoilt{name, changed(goodLogs(), at[0], at[1], f.spoil), f.err})
		}
	}
	return l
}

// cuts: of goodLogs and what is made of them by one change, closed ones, open ones and such beyond them.
func cuts() []api.Vector {
	return []api.Vector{{}, {1}, {0, 0, 1}, {1, 1, 1, 1, 1}, {2, 2, 2, 2, 2}, {2, 1, 1, 1, 1}, {2}, {0, 2}, {2, 1, 1, 1}, {3, 2, 2, 2, 2}, {0, 0, 0, 0, 0, 0, 0, 1}, all(top), {1 << 63}}
}

// P10.1: a kind that is none comes first, whatever else is wrong.
func TestKindFirst(t *testing.T) {
	for _, kind := range wrongKinds() {
		for _, v := range cuts() {
			refuses(t, "nothing", kind, api.Logs{}, v, api.ErrKind)
			refuses(t, "good logs", kind, goodLogs(), v, api.ErrKind)
		}
	}
	for _, s := range spoiltLogs() {
		for _, kind := range []int{0, 9, -1, 1<<32 + 1} {
			refuses(t, s.name, kind, s.l, api.Vector{}, api.ErrKind)
			refuses(t, s.name, kind, s.l, all(top), api.ErrKind)
		}
	}
}

// P10.1: then come logs that may not be, also beyond the cut, whatever the cut.
func TestLogsSecond(t *testing.T) {
	if err := cut.Check(goodLogs()); err != api.OK {
		t.Fatal("the good logs:", err)
	}
	for _, s := range spoiltLogs() {
		if err := cut.Check(s.l); err != s.err {
			t.Errorf("%s: Check says %v, not %v", s.name, err, s.err)
		}
		for _, v := range cuts() {
			for _, kind := range kinds {
				refuses(t, s.name, kind, s.l, v, s.err)
			}
		}
	}
}

// P10.1: of logs with two faults the error is Check's.
func TestWhichFault(t *testing.T) {
	l := changed(goodLogs(), 1, 1, func(x *api.Txn) { x.Deps[7] = 1 })
	ahead := changed(l, 1, 0, func(x *api.Txn) { x.Ops = nil })
	behind := changed(l, 2, 0, func(x *api.Txn) { x.Ops = nil })
	for _, kind := range kinds {
		refuses(t, "a gap alone", kind, l, api.Vector{}, api.ErrGap)
		refuses(t, "a gap behind one that may not be", kind, ahead, api.Vector{}, api.ErrTxn)
		refuses(t, "a gap ahead of one that may not be", kind, behind, api.Vector{}, api.ErrGap)
	}
}

// P10.1: then come cuts that aren't closed, or beyond the logs.
func TestOpenThird(t *testing.T) {
	l := goodLogs()
	open := 0
	for _, v := range append(cuts(), api.Vector{1, 1, 1, 1, 1, 1}, api.Vector{2, 2, 2, 2, 3}, api.Vector{1 << 32}, api.Vector{0, 1<<32 + 1}, api.Vector{1<<63 + 1}) {
		for _, kind := range kinds {
			if cut.Closed(l, v) {
				is(t, "a closed cut", kind, 1, l, v, plainValue(kind, 1, l, v, key))
				continue
			}
			open++
			refuses(t, "an open cut", kind, l, v, api.ErrOpen)
		}
	}
	if open < 8*8 {
		t.Errorf("%d were open", open)
	}
	for i := range api.MaxMembers {
		for _, n := range []uint64{1, 2, 1 << 32, 1 << 63, top} {
			var v api.Vector
			v[i] = n
			for _, kind := range kinds {
				refuses(t, "beyond nothing", kind, api.Logs{}, v, api.ErrOpen)
			}
		}
	}
	away := story(by(0, away(add("x"))), by(1, away(remove("x"))).seeing(1))
	for _, kind := range kinds {
		refuses(t, "a cut that is open by others", kind, away, api.Vector{0, 1}, api.ErrOpen)
	}
}

// P10.1: a key may be any, and hangs on no error.
func TestAnyKey(t *testing.T) {
	l, bad := goodLogs(), spoiltLogs()[0].l
	for _, k := range []string{"", "K", "k", "k/", "k/11", "k/1\x00", " k/1", other, "é", string(make([]byte, 100000))} {
		for _, kind := range kinds {
			for _, start := range starts {
				got, err := value.Value(kind, start, l, cut.Size(l), k)
				if want := beginning(kind, start); !same(got, want) || err != api.OK {
					t.Errorf("kind %d from %d of key %.20q: %v, %v; want %v", kind, start, k, got, err, want)
				}
			}
			for _, c := range []struct {
				kind int
				l    api.Logs
				v    api.Vector
				want api.Errno
			}{{9, l, all(9), api.ErrKind}, {kind, l, api.Vector{2}, api.ErrOpen}, {kind, bad, api.Vector{}, api.ErrLong}} {
				if got, err := value.Value(c.kind, 1, c.l, c.v, k); !same(got, api.Value{}) || err != c.want {
					t.Errorf("kind %d of key %.20q at %v: %v, %v; want nothing, %v", c.kind, k, c.v, got, err, c.want)
				}
			}
		}
	}
}
