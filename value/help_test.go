package value_test

import (
	"fmt"
	"math"
	"math/rand"
	"slices"
	"strings"
	"testing"
	"unsafe"

	"levee/api"
	"levee/cut"
	"levee/txn"
	"levee/value"
)

const (
	full = 1024 // how many transactions a log may have
	top  = math.MaxUint64
)

// The key that the tests ask for, and another one.
const (
	key   = "k/1"
	other = "k/2"
)

func inc(n int64) api.Op { return api.Op{Kind: api.Inc, Key: key, N: n} }
func dec(n int64) api.Op { return api.Op{Kind: api.Dec, Key: key, N: n} }
func give(n int64, to string) api.Op {
	return api.Op{Kind: api.Give, Key: key, Elem: to, N: n}
}
func add(e string) api.Op    { return api.Op{Kind: api.Add, Key: key, Elem: e} }
func remove(e string) api.Op { return api.Op{Kind: api.Remove, Key: key, Elem: e} }
func write(e string) api.Op  { return api.Op{Kind: api.Write, Key: key, Elem: e} }
func on() api.Op             { return api.Op{Kind: api.On, Key: key} }
func off() api.Op            { return api.Op{Kind: api.Off, Key: key} }

// away: the same operation, on the other key.
func away(o api.Op) api.Op {
	o.Key = other
	return o
}

// all: the vector that has n for each member.
func all(n uint64) api.Vector { return api.Vector{n, n, n, n, n, n, n, n} }

// A step of a story is a transaction of a member, which depends on all of its own ahead and on these of the others.
type step struct {
	member int
	stamp  uint64
	deps   api.Vector
	ops    []api.Op
}

// by: a step of the member that depends on none of the others.
func by(member int, ops ...api.Op) step { return step{member: member, ops: ops} }

// seeing: the step, depending on so many of the others.
func (s step) seeing(deps ...uint64) step {
	copy(s.deps[:], deps)
	return s
}

// stamped: the step with this stamp, or with the least that may be, where that is greater.
func (s step) stamped(stamp uint64) step {
	s.stamp = stamp
	return s
}

// behind: the logs with a step more.
func (s step) behind(l api.Logs) api.Logs {
	s.deps[s.member] = uint64(len(l[s.member]))
	x := api.Txn{Origin: s.member, Seq: s.deps[s.member] + 1, Stamp: max(s.stamp, cut.Stamp(l, s.deps)+1), Deps: s.deps, Ops: s.ops}
	l[s.member] = append(slices.Clone(l[s.member]), x)
	return l
}

// story: the logs of these steps.
func story(steps ...step) api.Logs {
	var l api.Logs
	for _, s := range steps {
		l = s.behind(l)
	}
	return l
}

// changed: logs of other memory, in which f has changed one transaction.
func changed(l api.Logs, member, place int, f func(t *api.Txn)) api.Logs {
	l[member] = slices.Clone(l[member])
	l[member][place].Ops = slices.Clone(l[member][place].Ops)
	f(&l[member][place])
	return l
}

func sameLogs(a, b api.Logs) bool {
	for i := range a {
		if !txn.SameList(a[i], b[i]) {
			return false
		}
	}
	return true
}

func same(a, b api.Value) bool {
	return a.N == b.N && a.On == b.On && slices.Equal(a.Elems, b.Elems)
}

// shown: the value in few words.
func shown(w api.Value) string { return fmt.Sprintf("%d %t %.300q", w.N, w.On, w.Elems) }

// is: the value is this one, in all its fields.
func is(t *testing.T, name string, kind int, start int64, l api.Logs, v api.Vector, want api.Value) {
	t.Helper()
	if got, err := value.Value(kind, start, l, v, key); !same(got, want) || err != api.OK {
		t.Errorf("%s: kind %d from %d at %v: %s, %v; want %s", name, kind, start, v, shown(got), err, shown(want))
	}
}

// refuses: the answer is that error, and nothing.
func refuses(t *testing.T, name string, kind int, l api.Logs, v api.Vector, want api.Errno) {
	t.Helper()
	for _, start := range []int64{0, 1} {
		if got, err := value.Value(kind, start, l, v, key); !same(got, api.Value{}) || err != want {
			t.Errorf("%s: kind %d from %d at %v: %s, %v; want nothing, %v", name, kind, start, v, shown(got), err, want)
		}
	}
}

func elems(l ...string) api.Value { return api.Value{Elems: l} }

// An act is an operation of a transaction.
type act struct {
	t     api.Txn
	place int
	op    api.Op
}

// plainSees is 'sees' as the chapter's words tell it.
func plainSees(a, b act) bool {
	if a.t.Origin == b.t.Origin && a.t.Seq == b.t.Seq {
		return b.place < a.place
	}
	return b.t.Seq <= a.t.Deps[b.t.Origin]
}

// plainActs: the operations on a key of a cut within the logs, that are of these kinds.
func plainActs(l api.Logs, v api.Vector, key string, kinds ...int) []act {
	var acts []act
	for _, t := range cut.Order(l, v) {
		for place, o := range t.Ops {
			if o.Key == key && slices.Contains(kinds, o.Kind) {
				acts = append(acts, act{t, place, o})
			}
		}
	}
	return acts
}

// plainClear: the acts that none of the others sees that are about the same element, or about any.
func plainClear(acts, others []act, any bool) []act {
	return slices.DeleteFunc(slices.Clone(acts), func(b act) bool {
		return slices.ContainsFunc(others, func(a act) bool { return (any || a.op.Elem == b.op.Elem) && plainSees(a, b) })
	})
}

func plainElems(acts []act) []string {
	var out []string
	for _, a := range acts {
		if !slices.Contains(out, a.op.Elem) {
			out = append(out, a.op.Elem)
		}
	}
	slices.Sort(out)
	return out
}

// plainValue is the value as the chapter's words tell it, of logs that may be at a closed cut.
func plainValue(kind int, start int64, l api.Logs, v api.Vector, key string) api.Value {
	of := func(kinds ...int) []act { return plainActs(l, v, key, kinds...) }
	var w api.Value
	switch kind {
	case api.Counter, api.Bound:
		w.N = start
		for _, a := range of(api.Inc, api.Dec) {
			if a.op.Kind == api.Dec {
				a.op.N = -a.op.N
			}
			w.N += a.op.N
		}
	case api.Set, api.Ids:
		w.Elems = plainElems(plainClear(of(api.Add), of(api.Remove), false))
	case api.Firm:
		w.Elems = plainFirm(of(api.Add), of(api.Remove))
	case api.Last:
		if writes := of(api.Write); len(writes) > 0 {
			w.Elems = []string{writes[len(writes)-1].op.Elem}
		}
	case api.Multi:
		w.Elems = plainElems(plainClear(of(api.Write), of(api.Write), true))
	case api.Flag:
		offs := of(api.Off)
		w.On = start != 0 && len(offs) == 0 || len(plainClear(of(api.On), offs, false)) > 0
	}
	return w
}

// plainFirm: the elements with an Add, each of whose Removes is seen by an Add of it.
func plainFirm(adds, removes []act) []string {
	return slices.DeleteFunc(plainElems(adds), func(e string) bool {
		return slices.ContainsFunc(removes, func(r act) bool {
			seer := func(a act) bool { return a.op.Elem == e && plainSees(a, r) }
			return r.op.Elem == e && !slices.ContainsFunc(adds, seer)
		})
	})
}

// opOf: the operation of a kind on the key that tells of this element, or of this number.
func opOf(kind, member int, e string, n int64) api.Op {
	switch kind {
	case api.Inc, api.Dec:
		e = ""
	case api.Give:
		e = string(rune('0' + (member+1)%8))
	case api.On, api.Off:
		e, n = "", 0
	default:
		n = 0
	}
	return api.Op{Kind: kind, Key: key, Elem: e, N: n}
}

// counted: the kinds of operations that a kind of keys counts.
func counted(kind int) []int {
	switch kind {
	case api.Counter, api.Bound:
		return []int{api.Inc, api.Dec}
	case api.Set, api.Ids, api.Firm:
		return []int{api.Add, api.Remove}
	case api.Last, api.Multi:
		return []int{api.Write}
	}
	return []int{api.On, api.Off}
}

// someOp: an operation of few elements, mostly on the key and of one of these kinds.
func someOp(r *rand.Rand, member int, kinds []int) api.Op {
	kind := kinds[r.Intn(len(kinds))]
	if r.Intn(4) == 0 {
		kind = 1 + r.Intn(8)
	}
	o := opOf(kind, member, []string{"", "x", "y"}[r.Intn(3)], 1+r.Int63n(3))
	if r.Intn(4) == 0 {
		return away(o)
	}
	return o
}

// someLogs: logs that may be, of so many transactions of the first members, with few stamps, operations of these kinds mostly; what they depend on is closed by chance alone.
func someLogs(r *rand.Rand, members, n int, kinds []int) api.Logs {
	var l api.Logs
	for range n {
		i := r.Intn(members)
		var deps api.Vector
		for j := range l {
			if r.Intn(2) == 0 {
				deps[j] = uint64(r.Intn(len(l[j]) + 1))
			}
		}
		list := []api.Op{someOp(r, i, kinds)}
		for range r.Intn(4) {
			list = append(list, someOp(r, i, kinds))
		}
		l = by(i, list...).seeing(deps[:]...).stamped(uint64(r.Intn(n))).behind(l)
	}
	return l
}

// someCut: within the logs, and closed by chance alone.
func someCut(r *rand.Rand, l api.Logs) api.Vector {
	v := cut.Size(l)
	for i := range v {
		if r.Intn(2) == 0 {
			v[i] = uint64(r.Intn(int(v[i] + 1)))
		}
	}
	return v
}

// A room holds texts in bytes that can be changed behind the back of whoever kept one of them.
type room struct{ parts [][]byte }

func (m *room) text(s string) string {
	if s == "" {
		return ""
	}
	b := []byte(s)
	m.parts = append(m.parts, b)
	return unsafe.String(&b[0], len(b))
}

// change: all texts in the room become others.
func (m *room) change() {
	for _, b := range m.parts {
		copy(b, strings.Repeat("?", len(b)))
	}
}

const spare = "spare"

// list: the same list, its texts in the room, with spare room behind it.
func (m *room) list(l []string) []string {
	out := make([]string, 0, len(l)+2)
	for _, s := range l {
		out = append(out, m.text(s))
	}
	out[:cap(out)][len(out)], out[:cap(out)][len(out)+1] = spare, spare
	return out
}

// logs: the same logs, their texts in the room, each list with spare room behind it.
func (m *room) logs(l api.Logs) api.Logs {
	for i := range l {
		log := make([]api.Txn, 0, len(l[i])+1)
		for _, t := range l[i] {
			ops := make([]api.Op, 0, len(t.Ops)+1)
			for _, o := range t.Ops {
				ops = append(ops, api.Op{Kind: o.Kind, Key: m.text(o.Key), Elem: m.text(o.Elem), N: o.N})
			}
			ops[:cap(ops)][len(ops)] = remove(spare)
			t.Ops = ops
			log = append(log, t)
		}
		log[:cap(log)][len(log)].Seq = 77
		l[i] = log
	}
	return l
}

// spareKept: is what lies behind the lists of such logs as it was laid there?
func spareKept(l api.Logs) bool {
	for _, log := range l {
		if log[:cap(log)][len(log)].Seq != 77 {
			return false
		}
		for _, t := range log {
			if t.Ops[:cap(t.Ops)][len(t.Ops)] != remove(spare) {
				return false
			}
		}
	}
	return true
}
