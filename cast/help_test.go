package cast_test

import (
	"fmt"
	"math"
	"slices"
	"strings"
	"testing"
	"unsafe"

	"levee/api"
	"levee/cast"
	"levee/cut"
	"levee/txn"
)

const (
	full = 1024 // how many transactions a log may have
	most = 64   // how many may wait
	top  = math.MaxUint64
)

// one: the vector that has n for the member alone.
func one(member int, n uint64) api.Vector {
	var v api.Vector
	v[member] = n
	return v
}

// at: the transaction of this member, number and stamp that depends on all of its own ahead and on these of the others.
func at(origin int, seq, stamp uint64, deps api.Vector) api.Txn {
	deps[origin] = seq - 1
	return api.Txn{Origin: origin, Seq: seq, Stamp: stamp, Deps: deps, Ops: []api.Op{{Kind: api.Inc, Key: "a", N: 5}, {Kind: api.Add, Key: "s/1", Elem: "x"}}}
}

// next: the transaction that comes behind one of the same member, with the next stamp, and depends on as much of the others.
func next(x api.Txn) api.Txn { return at(x.Origin, x.Seq+1, x.Stamp+1, x.Deps) }

// early: a transaction of this member and number that waits for member 7's first one, unless that is there.
func early(origin int, seq uint64) api.Txn { return at(origin, seq, seq+20, one(7, 1)) }

// unlike: another transaction of its Origin and Seq, which may be just where it may.
func unlike(x api.Txn) api.Txn {
	x = txn.Copy(x)
	x.Ops = append(x.Ops, api.Op{Kind: api.On, Key: "unlike"})
	return x
}

// with: the transaction, with something changed.
func with(x api.Txn, f func(x *api.Txn)) api.Txn {
	x = txn.Copy(x)
	f(&x)
	return x
}

// alone: n transactions of a member, each depending on its own ahead, with stamps from 1 on.
func alone(member, n int) []api.Txn {
	var log []api.Txn
	for k := range uint64(n) {
		log = append(log, at(member, k+1, k+1, api.Vector{}))
	}
	return log
}

// waiting: so many that wait for member 7's first one, by Origin and Seq, of members 1 to 5 by turns.
func waiting(n int) []api.Txn {
	var l []api.Txn
	for i := range n {
		l = append(l, early(1+i*5/n, uint64(2*i+2)))
	}
	return l
}

// of: an inbox with these logs, and these waiting.
func of(l api.Logs, wait ...api.Txn) api.Inbox { return api.Inbox{Logs: l, Wait: wait} }

func sameLogs(a, b api.Logs) bool {
	for i := range a {
		if !txn.SameList(a[i], b[i]) {
			return false
		}
	}
	return true
}

func same(a, b api.Inbox) bool { return sameLogs(a.Logs, b.Logs) && txn.SameList(a.Wait, b.Wait) }

// shown: the logs' sizes, and which wait.
func shown(in api.Inbox) string {
	var b strings.Builder
	fmt.Fprint(&b, "logs ", cut.Size(in.Logs), " wait")
	for _, x := range in.Wait[:min(len(in.Wait), 80)] {
		fmt.Fprintf(&b, " %d.%d", x.Origin, x.Seq)
	}
	return b.String()
}

// count: how many transactions the logs have.
func count(l api.Logs) int {
	n := uint64(0)
	for _, size := range cut.Size(l) {
		n += size
	}
	return int(n)
}

// plainReceive is Receive as the chapter's words tell it.
func plainReceive(in api.Inbox, x api.Txn) (api.Inbox, int, api.Errno) {
	l, err := cut.Add(in.Logs, x)
	if err == api.ErrGap {
		wait, err := plainHold(in.Wait, x)
		if err != api.OK {
			return api.Inbox{}, 0, err
		}
		return of(in.Logs, wait...), 0, api.OK
	}
	if err != api.OK {
		return api.Inbox{}, 0, err
	}
	wait := slices.Clone(in.Wait)
	for k := 0; k < len(wait); {
		taken, err := cut.Add(l, wait[k])
		if err == api.ErrGap {
			k++
			continue
		}
		wait = slices.Delete(wait, k, k+1)
		if err == api.OK {
			l, k = taken, 0
		}
	}
	return of(l, wait...), count(l) - count(in.Logs), api.OK
}

// plainHold: what waits behind a transaction that has to wait.
func plainHold(wait []api.Txn, x api.Txn) ([]api.Txn, api.Errno) {
	place := slices.IndexFunc(wait, func(w api.Txn) bool {
		return w.Origin > x.Origin || w.Origin == x.Origin && w.Seq >= x.Seq
	})
	if place < 0 {
		place = len(wait)
	}
	switch {
	case place < len(wait) && txn.Same(wait[place], x):
		return wait, api.OK
	case place < len(wait) && wait[place].Origin == x.Origin && wait[place].Seq == x.Seq:
		return nil, api.ErrClash
	case len(wait) > most-1:
		return nil, api.ErrFull
	}
	return slices.Insert(slices.Clone(wait), place, x), api.OK
}

// answers: Receive answers that.
func answers(t *testing.T, name string, in api.Inbox, x api.Txn, want api.Inbox, wantN int, wantErr api.Errno) {
	t.Helper()
	if got, n, err := cast.Receive(in, x); !same(got, want) || n != wantN || err != wantErr {
		t.Errorf("%s: Receive of %d.%d to %s:\n%s, %d, %v; want\n%s, %d, %v", name, x.Origin, x.Seq, shown(in), shown(got), n, err, shown(want), wantN, wantErr)
	}
}

// receives: Receive answers that inbox, and how many its logs have got.
func receives(t *testing.T, name string, in api.Inbox, x api.Txn, want api.Inbox) {
	t.Helper()
	answers(t, name, in, x, want, count(want.Logs)-count(in.Logs), api.OK)
}

// refuses: Receive answers that error, and nothing else.
func refuses(t *testing.T, name string, in api.Inbox, x api.Txn, want api.Errno) {
	t.Helper()
	answers(t, name, in, x, api.Inbox{}, 0, want)
}

// A room holds texts in bytes that can be changed behind the back of whoever kept one of them.
type room struct{ parts [][]byte }

func (m *room) text(s string) string {
	if s == "" {
		return ""
	}
	b := []byte(s)
	m.parts = append(m.parts, b)
	return unsafe.String(&b[0], len(b))
}

// change: all texts in the room become others.
func (m *room) change() {
	for _, b := range m.parts {
		copy(b, strings.Repeat("?", len(b)))
	}
}

var (
	spareOp  = api.Op{Kind: 77, Key: "spare", Elem: "room", N: -7}
	spareTxn = api.Txn{Origin: 77, Seq: 7, Stamp: 7, Ops: []api.Op{spareOp}}
)

// txn: the same transaction, its texts in the room, its list with spare room behind it.
func (m *room) txn(x api.Txn) api.Txn {
	ops := make([]api.Op, 0, len(x.Ops)+2)
	for _, o := range x.Ops {
		ops = append(ops, api.Op{Kind: o.Kind, Key: m.text(o.Key), Elem: m.text(o.Elem), N: o.N})
	}
	for i := range 2 {
		ops[:cap(ops)][len(ops)+i] = spareOp
	}
	x.Ops = ops
	return x
}

// txns: the same transactions, with spare room behind them.
func (m *room) txns(l []api.Txn) []api.Txn {
	out := make([]api.Txn, 0, len(l)+2)
	for _, x := range l {
		out = append(out, m.txn(x))
	}
	for k := range 2 {
		out[:cap(out)][len(out)+k] = spareTxn
	}
	return out
}

// inbox: the same inbox, of such lists.
func (m *room) inbox(in api.Inbox) api.Inbox {
	for i, log := range in.Logs {
		in.Logs[i] = m.txns(log)
	}
	in.Wait = m.txns(in.Wait)
	return in
}

// listsOf: each log, and what waits.
func listsOf(in api.Inbox) [][]api.Txn { return append(slices.Clone(in.Logs[:]), in.Wait) }

// opsKept: is what lies behind the operations as it was laid there?
func opsKept(x api.Txn) bool {
	spare := x.Ops[len(x.Ops):cap(x.Ops)]
	return len(spare) == 2 && spare[0] == spareOp && spare[1] == spareOp
}

// spareKept: is what lies behind all lists as it was laid there?
func spareKept(in api.Inbox) bool {
	for _, l := range listsOf(in) {
		spare := l[len(l):cap(l)]
		if len(spare) != 2 || !txn.Same(spare[0], spareTxn) || !txn.Same(spare[1], spareTxn) {
			return false
		}
		if slices.ContainsFunc(l, func(x api.Txn) bool { return !opsKept(x) }) {
			return false
		}
	}
	return true
}

// wipe: all that an inbox reaches becomes noughts, its spare room too.
func wipe(in api.Inbox) {
	for _, l := range listsOf(in) {
		for _, x := range l {
			clear(x.Ops[:cap(x.Ops)])
		}
		clear(l[:cap(l)])
	}
}

// cloned: the inbox as memory that nothing else has, made without the package that is tested.
func cloned(in api.Inbox) api.Inbox {
	clone := func(l []api.Txn) []api.Txn {
		var out []api.Txn
		for _, x := range l {
			out = append(out, txn.Copy(x))
		}
		return out
	}
	for i, log := range in.Logs {
		in.Logs[i] = clone(log)
	}
	in.Wait = clone(in.Wait)
	return in
}
