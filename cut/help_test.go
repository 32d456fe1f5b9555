package cut_test

import (
	"math"
	"slices"
	"strings"
	"testing"
	"unsafe"

	"levee/api"
	"levee/cut"
	"levee/txn"
)

const (
	full = 1024 // how many transactions a log may have
	top  = math.MaxUint64
)

// all: the vector that has n for each member.
func all(n uint64) api.Vector { return api.Vector{n, n, n, n, n, n, n, n} }

// one: the vector that has n for the member alone.
func one(member int, n uint64) api.Vector {
	var v api.Vector
	v[member] = n
	return v
}

// at: the transaction of this member, number and stamp that depends on all of its own ahead and on these of the others.
func at(origin int, seq, stamp uint64, deps api.Vector) api.Txn {
	deps[origin] = seq - 1
	return api.Txn{Origin: origin, Seq: seq, Stamp: stamp, Deps: deps, Ops: []api.Op{{Kind: api.Inc, Key: "a", N: 5}}}
}

// alone: n transactions of a member, each depending on its own ahead, with stamps from 1 on.
func alone(member, n int) []api.Txn {
	var log []api.Txn
	for k := range uint64(n) {
		log = append(log, at(member, k+1, k+1, api.Vector{}))
	}
	return log
}

// with: the logs, with the one of this member put there.
func with(l api.Logs, member int, log ...api.Txn) api.Logs {
	l[member] = log
	return l
}

// changed: logs of other memory, in which f has changed one transaction.
func changed(l api.Logs, member, place int, f func(t *api.Txn)) api.Logs {
	l[member] = slices.Clone(l[member])
	l[member][place].Ops = slices.Clone(l[member][place].Ops)
	f(&l[member][place])
	return l
}

// within: the first transactions of each log, as many as the cut has.
func within(l api.Logs, v api.Vector) api.Logs {
	for i := range l {
		l[i] = l[i][:v[i]]
	}
	return l
}

func sameLogs(a, b api.Logs) bool {
	for i := range a {
		if !txn.SameList(a[i], b[i]) {
			return false
		}
	}
	return true
}

func none(l api.Logs) bool { return sameLogs(l, api.Logs{}) }

// plainSize is Size as the chapter's words tell it.
func plainSize(l api.Logs) api.Vector {
	var v api.Vector
	for i := range l {
		for range l[i] {
			v[i]++
		}
	}
	return v
}

// plainStamp is Stamp as the chapter's words tell it.
func plainStamp(l api.Logs, v api.Vector) uint64 {
	stamps := []uint64{0}
	for i := range l {
		for k := range l[i] {
			if uint64(k+1) == v[i] {
				stamps = append(stamps, l[i][k].Stamp)
			}
		}
	}
	return slices.Max(stamps)
}

// plainGap: does it depend on more than the logs have?
func plainGap(l api.Logs, t api.Txn) bool {
	for i := range l {
		if t.Deps[i] > uint64(len(l[i])) {
			return true
		}
	}
	return false
}

// plainEarly: is its stamp not greater than one of the last transactions of its Deps, which are there?
func plainEarly(l api.Logs, t api.Txn) bool {
	for i := range l {
		if t.Deps[i] != 0 && l[i][t.Deps[i]-1].Stamp >= t.Stamp {
			return true
		}
	}
	return false
}

// plainCheck is Check as the chapter's words tell it.
func plainCheck(l api.Logs) api.Errno {
	if slices.ContainsFunc(l[:], func(log []api.Txn) bool { return len(log) > full }) {
		return api.ErrLong
	}
	for i := range l {
		for k, t := range l[i] {
			switch {
			case txn.Check(t) != api.OK, t.Origin != i, t.Seq != uint64(k+1):
				return api.ErrTxn
			case plainGap(l, t):
				return api.ErrGap
			case plainEarly(l, t):
				return api.ErrTxn
			}
		}
	}
	return api.OK
}

// plainAdd is Add as the chapter's words tell it.
func plainAdd(l api.Logs, t api.Txn) (api.Logs, api.Errno) {
	if txn.Check(t) != api.OK {
		return api.Logs{}, api.ErrTxn
	}
	for k, u := range l[t.Origin] {
		if uint64(k+1) == t.Seq && txn.Same(t, u) {
			return l, api.OK
		}
		if uint64(k+1) == t.Seq {
			return api.Logs{}, api.ErrClash
		}
	}
	switch {
	case plainGap(l, t):
		return api.Logs{}, api.ErrGap
	case plainEarly(l, t):
		return api.Logs{}, api.ErrTxn
	case len(l[t.Origin])+1 > full:
		return api.Logs{}, api.ErrFull
	}
	return with(l, t.Origin, append(slices.Clone(l[t.Origin]), t)...), api.OK
}

// plainClosed is Closed as the chapter's words tell it.
func plainClosed(l api.Logs, v api.Vector) bool {
	for i := range l {
		if v[i] > uint64(len(l[i])) {
			return false
		}
		for k := range l[i] {
			for j := range v {
				if uint64(k) < v[i] && l[i][k].Deps[j] > v[j] {
					return false
				}
			}
		}
	}
	return true
}

// closedCuts: the closed ones of all cuts within the logs and within v.
func closedCuts(l api.Logs, v api.Vector) []api.Vector {
	cuts := []api.Vector{{}}
	for i := range v {
		for _, c := range cuts {
			for c[i] < min(v[i], uint64(len(l[i]))) {
				c[i]++
				cuts = append(cuts, c)
			}
		}
	}
	return slices.DeleteFunc(cuts, func(c api.Vector) bool { return !plainClosed(l, c) })
}

// plainAhead: does a stand ahead of b by Stamp, Origin, Seq?
func plainAhead(a, b api.Txn) bool {
	if a.Stamp == b.Stamp && a.Origin == b.Origin {
		return a.Seq < b.Seq
	}
	if a.Stamp == b.Stamp {
		return a.Origin < b.Origin
	}
	return a.Stamp < b.Stamp
}

// plainOrder is Order as the chapter's words tell it: each comes, log by log, ahead of those that it stands ahead of.
func plainOrder(l api.Logs, v api.Vector) []api.Txn {
	var out []api.Txn
	for i := range l {
		for k, t := range l[i] {
			if uint64(k) >= v[i] {
				break
			}
			place := len(out)
			for place > 0 && plainAhead(t, out[place-1]) {
				place--
			}
			out = slices.Insert(out, place, t)
		}
	}
	return out
}

// plainJoin is Join as the chapter's words tell it.
func plainJoin(a, b api.Logs) (api.Logs, api.Errno) {
	if err := plainCheck(a); err != api.OK {
		return api.Logs{}, err
	}
	if err := plainCheck(b); err != api.OK {
		return api.Logs{}, err
	}
	var out api.Logs
	for i := range out {
		for k := range max(len(a[i]), len(b[i])) {
			switch {
			case k >= len(a[i]):
				out[i] = append(out[i], b[i][k])
			case k >= len(b[i]):
				out[i] = append(out[i], a[i][k])
			case !txn.Same(a[i][k], b[i][k]):
				return api.Logs{}, api.ErrClash
			default:
				out[i] = append(out[i], a[i][k])
			}
		}
	}
	return out, api.OK
}

// plainMissing is Missing as the chapter's words tell it.
func plainMissing(l api.Logs, v api.Vector, most int) []api.Txn {
	var out []api.Txn
	for _, t := range plainOrder(l, all(top)) {
		counted := t.Origin >= 0 && t.Origin < 8 && t.Seq != 0 && t.Seq <= v[t.Origin]
		if !counted && len(out) < most {
			out = append(out, t)
		}
	}
	return out
}

// checks: Check of the logs, Join of them with nothing either way round and with themselves answer as they should.
func checks(t *testing.T, name string, l api.Logs, want api.Errno) {
	t.Helper()
	wantLogs := l
	if want != api.OK {
		wantLogs = api.Logs{}
	}
	if err := cut.Check(l); err != want {
		t.Errorf("%s: Check: %v, want %v", name, err, want)
	}
	joins(t, name+", nothing", l, api.Logs{}, wantLogs, want)
	joins(t, name+", behind nothing", api.Logs{}, l, wantLogs, want)
	joins(t, name+", itself", l, l, wantLogs, want)
}

func joins(t *testing.T, name string, a, b, want api.Logs, wantErr api.Errno) {
	t.Helper()
	if got, err := cut.Join(a, b); !sameLogs(got, want) || err != wantErr {
		t.Errorf("%s: Join: sizes %v, %v; want sizes %v, %v", name, cut.Size(got), err, plainSize(want), wantErr)
	}
}

// adds: Add answers these logs, or none and an error.
func adds(t *testing.T, name string, l api.Logs, x api.Txn, want api.Logs, wantErr api.Errno) {
	t.Helper()
	if got, err := cut.Add(l, x); !sameLogs(got, want) || err != wantErr {
		t.Errorf("%s: Add of %+v: sizes %v, %v; want sizes %v, %v", name, x, cut.Size(got), err, plainSize(want), wantErr)
	}
}

// refuses: Add answers an error, and no logs.
func refuses(t *testing.T, name string, l api.Logs, x api.Txn, want api.Errno) {
	t.Helper()
	adds(t, name, l, x, api.Logs{}, want)
}

// closes: Close of the cut is this one, which is closed, and the cut is closed just where it is that.
func closes(t *testing.T, name string, l api.Logs, v, want api.Vector) {
	t.Helper()
	if got := cut.Close(l, v); got != want {
		t.Errorf("%s: Close of %v: %v, want %v", name, v, got, want)
	}
	if !cut.Closed(l, want) {
		t.Errorf("%s: %v isn't closed", name, want)
	}
	if got := cut.Closed(l, v); got != (v == want) {
		t.Errorf("%s: Closed of %v: %v, though Close is %v", name, v, got, want)
	}
}

func lists(t *testing.T, name string, got, want []api.Txn) {
	t.Helper()
	if !txn.SameList(got, want) {
		t.Errorf("%s: %d transactions %.1000v, want %d %.1000v", name, len(got), got, len(want), want)
	}
}

// A room holds texts in bytes that can be changed behind the back of whoever kept one of them.
type room struct{ parts [][]byte }

func (m *room) text(s string) string {
	if s == "" {
		return ""
	}
	b := []byte(s)
	m.parts = append(m.parts, b)
	return unsafe.String(&b[0], len(b))
}

var (
	spareOp  = api.Op{Kind: 77, Key: "spare", Elem: "room", N: -7}
	spareTxn = api.Txn{Origin: 77, Seq: 7, Stamp: 7, Ops: []api.Op{spareOp}}
)

// txn: the same transaction, its texts in the room, its list with spare room behind it.
func (m *room) txn(t api.Txn) api.Txn {
	ops := make([]api.Op, 0, len(t.Ops)+2)
	for _, o := range t.Ops {
		ops = append(ops, api.Op{Kind: o.Kind, Key: m.text(o.Key), Elem: m.text(o.Elem), N: o.N})
	}
	for i := range 2 {
		ops[:cap(ops)][len(ops)+i] = spareOp
	}
	t.Ops = ops
	return t
}

// logs: the same logs, of such transactions, each list with spare room behind it.
func (m *room) logs(l api.Logs) api.Logs {
	for i := range l {
		log := make([]api.Txn, 0, len(l[i])+2)
		for _, t := range l[i] {
			log = append(log, m.txn(t))
		}
		for k := range 2 {
			log[:cap(log)][len(log)+k] = spareTxn
		}
		l[i] = log
	}
	return l
}

func opsKept(t api.Txn) bool {
	spare := t.Ops[len(t.Ops):cap(t.Ops)]
	return len(spare) == 2 && spare[0] == spareOp && spare[1] == spareOp
}

// spareKept: is what lies behind the lists as it was laid there?
func spareKept(l api.Logs) bool {
	for _, log := range l {
		spare := log[len(log):cap(log)]
		if len(spare) != 2 || !txn.Same(spare[0], spareTxn) || !txn.Same(spare[1], spareTxn) {
			return false
		}
		if slices.ContainsFunc(log, func(t api.Txn) bool { return !opsKept(t) }) {
			return false
		}
	}
	return true
}

// change: all texts in the room become others.
func (m *room) change() {
	for _, b := range m.parts {
		copy(b, strings.Repeat("?", len(b)))
	}
}

// wipe: all that a list of transactions reaches becomes noughts, its spare room too.
func wipe(l []api.Txn) {
	for _, t := range l {
		clear(t.Ops[:cap(t.Ops)])
	}
	clear(l[:cap(l)])
}
