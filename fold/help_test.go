package fold_test

import (
	"fmt"
	"math"
	"math/rand"
	"slices"
	"strings"
	"testing"
	"unsafe"

	"levee/api"
	"levee/cut"
	"levee/fold"
	"levee/txn"
)

const top = math.MaxUint64

// The key that the tests ask for, and another one.
const (
	key   = "k/1"
	other = "k/2"
)

// The kinds of keys, and starts at which numbers may be taken wrongly.
var (
	kinds  = []int{api.Counter, api.Bound, api.Set, api.Firm, api.Last, api.Multi, api.Flag, api.Ids}
	starts = []int64{0, 1, -1, 2, -2, 256, 1 << 32, -1 << 32, 1 << 40, math.MaxInt64, math.MinInt64}
)

func inc(n int64) api.Op { return api.Op{Kind: api.Inc, Key: key, N: n} }
func dec(n int64) api.Op { return api.Op{Kind: api.Dec, Key: key, N: n} }
func give(n int64, to string) api.Op {
	return api.Op{Kind: api.Give, Key: key, Elem: to, N: n}
}
func add(e string) api.Op    { return api.Op{Kind: api.Add, Key: key, Elem: e} }
func remove(e string) api.Op { return api.Op{Kind: api.Remove, Key: key, Elem: e} }
func write(e string) api.Op  { return api.Op{Kind: api.Write, Key: key, Elem: e} }
func on() api.Op             { return api.Op{Kind: api.On, Key: key} }
func off() api.Op            { return api.Op{Kind: api.Off, Key: key} }

// away: the same operation, on the other key.
func away(o api.Op) api.Op {
	o.Key = other
	return o
}

// at: a tag at a member's transaction, at a place in it.
func at(origin int, seq uint64, index int, elem string) api.Tag {
	return api.Tag{Origin: origin, Seq: seq, Index: index, Elem: elem}
}

func tags(l ...api.Tag) []api.Tag { return l }

// made: a member's transaction, which depends on so many of the others.
func made(origin int, seq, stamp uint64, deps api.Vector, ops ...api.Op) api.Txn {
	deps[origin] = seq - 1
	return api.Txn{Origin: origin, Seq: seq, Stamp: stamp, Deps: deps, Ops: ops}
}

// A step of a story is a transaction of a member, which depends on all of its own ahead and on these of the others.
type step struct {
	member int
	stamp  uint64
	deps   api.Vector
	ops    []api.Op
}

// by: a step of the member that depends on none of the others.
func by(member int, ops ...api.Op) step { return step{member: member, ops: ops} }

// seeing: the step, depending on so many of the others.
func (s step) seeing(deps ...uint64) step {
	copy(s.deps[:], deps)
	return s
}

// stamped: the step with this stamp, or with the least that may be, where that is greater.
func (s step) stamped(stamp uint64) step {
	s.stamp = stamp
	return s
}

// behind: the logs with a step more.
func (s step) behind(l api.Logs) api.Logs {
	s.deps[s.member] = uint64(len(l[s.member]))
	x := made(s.member, s.deps[s.member]+1, max(s.stamp, cut.Stamp(l, s.deps)+1), s.deps, s.ops...)
	l[s.member] = append(slices.Clone(l[s.member]), x)
	return l
}

// story: the logs of these steps.
func story(steps ...step) api.Logs {
	var l api.Logs
	for _, s := range steps {
		l = s.behind(l)
	}
	return l
}

// counted: the kinds of operations that a kind of keys counts.
func counted(kind int) []int {
	switch kind {
	case api.Counter, api.Bound:
		return []int{api.Inc, api.Dec}
	case api.Set, api.Ids, api.Firm:
		return []int{api.Add, api.Remove}
	case api.Last, api.Multi:
		return []int{api.Write}
	}
	return []int{api.On, api.Off}
}

// opOf: the operation of a kind on the key that tells of this element, or of this number.
func opOf(kind, member int, e string, n int64) api.Op {
	switch kind {
	case api.Inc, api.Dec:
		e = ""
	case api.Give:
		e = string(rune('0' + (member+1)%8))
	case api.On, api.Off:
		e, n = "", 0
	default:
		n = 0
	}
	return api.Op{Kind: kind, Key: key, Elem: e, N: n}
}

// someOps: operations of few elements, mostly on the key and of one of these kinds.
func someOps(r *rand.Rand, member int, kinds []int) []api.Op {
	var l []api.Op
	for range 1 + r.Intn(4) {
		kind := kinds[r.Intn(len(kinds))]
		if r.Intn(6) == 0 {
			kind = 1 + r.Intn(8)
		}
		o := opOf(kind, member, []string{"", "x", "y"}[r.Intn(3)], 1+r.Int63n(3))
		if r.Intn(5) == 0 {
			o = away(o)
		}
		l = append(l, o)
	}
	return l
}

// someLogs: logs that may be, of so many transactions of the first members, with few stamps, operations of these kinds mostly.
func someLogs(r *rand.Rand, members, n int, kinds []int) api.Logs {
	var l api.Logs
	for range n {
		i := r.Intn(members)
		var deps api.Vector
		for j := range l {
			if r.Intn(2) == 0 {
				deps[j] = uint64(r.Intn(len(l[j]) + 1))
			}
		}
		l = by(i, someOps(r, i, kinds)...).seeing(deps[:]...).stamped(uint64(r.Intn(n))).behind(l)
	}
	return l
}

func same(a, b api.Value) bool {
	return a.N == b.N && a.On == b.On && slices.Equal(a.Elems, b.Elems)
}

func sameState(a, b api.State) bool {
	return slices.Equal(a.Ever, b.Ever) && slices.Equal(a.Live, b.Live) && fields(a) == fields(b)
}

// fields: all of a state but its lists.
func fields(s api.State) [6]any { return [6]any{s.Kind, s.N, s.Has, s.Stamp, s.Top, s.Default} }

// shown: the state in few words.
func shown(s api.State) string {
	return fmt.Sprintf("{kind %d, n %d, ever %.300q, live %.600v, has %t %d %v, default %t}", s.Kind, s.N, s.Ever, s.Live, s.Has, s.Stamp, s.Top, s.Default)
}

// begun: what Begin answers of a kind of keys.
func begun(t *testing.T, kind int, start int64) api.State {
	t.Helper()
	s, err := fold.Begin(kind, start)
	if err != api.OK {
		t.Fatalf("Begin(%d, %d): %v", kind, start, err)
	}
	return s
}

// becomes: the state behind these transactions, one behind the other, is this one.
func becomes(t *testing.T, name string, s, want api.State, l ...api.Txn) {
	t.Helper()
	got := s
	for _, x := range l {
		var err api.Errno
		if got, err = fold.Apply(got, x, key); err != api.OK {
			t.Fatalf("%s: %+v at %s: %v", name, x, shown(s), err)
		}
	}
	if !sameState(got, want) {
		t.Errorf("%s: behind %+v\n%s becomes %s\nwant %s", name, l, shown(s), shown(got), shown(want))
	}
}

// applied: Apply of that key answers this state.
func applied(t *testing.T, s api.State, x api.Txn, key string, want api.State) {
	t.Helper()
	if got, err := fold.Apply(s, x, key); !sameState(got, want) || err != api.OK {
		t.Errorf("key %.40q: behind %+v\n%s becomes %s, %v\nwant %s", key, x, shown(s), shown(got), err, shown(want))
	}
}

// plainSees is 'sees' as the chapters' words tell it, of an operation at a place of its transaction.
func plainSees(t api.Txn, place int, tag api.Tag) bool {
	if tag.Origin == t.Origin && tag.Seq == t.Seq {
		return tag.Index < place
	}
	for member, n := range t.Deps {
		if member == tag.Origin && 1 <= tag.Seq && tag.Seq <= n {
			return true
		}
	}
	return false
}

// plainAhead: does a stand ahead of b?
func plainAhead(a, b api.Tag) bool {
	if a.Origin != b.Origin {
		return a.Origin < b.Origin
	}
	if a.Seq != b.Seq {
		return a.Seq < b.Seq
	}
	return a.Index < b.Index
}

// plainPut: the tags with one put ahead of the first one that doesn't stand ahead of it.
func plainPut(l []api.Tag, tag api.Tag) []api.Tag {
	var out []api.Tag
	put := false
	for _, x := range l {
		if !put && !plainAhead(x, tag) {
			out, put = append(out, tag), true
		}
		out = append(out, x)
	}
	if !put {
		out = append(out, tag)
	}
	return out
}

// plainInto: the list with e put ahead of the first one that isn't less, if that isn't e.
func plainInto(l []string, e string) []string {
	place := 0
	for place < len(l) && l[place] < e {
		place++
	}
	if place < len(l) && l[place] == e {
		return l
	}
	return slices.Concat(l[:place], []string{e}, l[place:])
}

// plainOp: the state behind one operation on its key, as the chapter's words tell it.
func plainOp(s api.State, t api.Txn, place int) api.State {
	o := t.Ops[place]
	tag := at(t.Origin, t.Seq, place, o.Elem)
	clear := func(any bool) []api.Tag {
		return slices.DeleteFunc(slices.Clone(s.Live), func(x api.Tag) bool {
			return (any || x.Elem == o.Elem) && plainSees(t, place, x)
		})
	}
	is := func(kind, op int) bool { return s.Kind == kind && o.Kind == op }
	switch {
	case is(api.Counter, api.Inc), is(api.Bound, api.Inc):
		s.N += o.N
	case is(api.Counter, api.Dec), is(api.Bound, api.Dec):
		s.N -= o.N
	case is(api.Set, api.Add), is(api.Ids, api.Add), is(api.Firm, api.Remove), is(api.Flag, api.On):
		s.Live = plainPut(s.Live, tag)
	case is(api.Set, api.Remove), is(api.Ids, api.Remove):
		s.Live = clear(false)
	case is(api.Firm, api.Add):
		s.Ever, s.Live = plainInto(s.Ever, o.Elem), clear(false)
	case is(api.Last, api.Write):
		if !s.Has || t.Stamp > s.Stamp || t.Stamp == s.Stamp && plainAhead(s.Top, tag) {
			s.Has, s.Stamp, s.Top = true, t.Stamp, tag
		}
	case is(api.Multi, api.Write):
		s.Live = plainPut(clear(true), tag)
	case is(api.Flag, api.Off):
		s.Live, s.Default = clear(false), false
	}
	return s
}

// plainNamed: the state, in which the fields that the words don't name for its kind are noughts.
func plainNamed(s api.State) api.State {
	of := func(kinds ...int) bool { return slices.Contains(kinds, s.Kind) }
	if !of(api.Counter, api.Bound) {
		s.N = 0
	}
	if !of(api.Firm) {
		s.Ever = nil
	}
	if !of(api.Set, api.Ids, api.Firm, api.Multi, api.Flag) {
		s.Live = nil
	}
	if !of(api.Last) {
		s.Has, s.Stamp, s.Top = false, 0, api.Tag{}
	}
	if !of(api.Flag) {
		s.Default = false
	}
	return s
}

// plainApply is Apply as the chapter's words tell it.
func plainApply(s api.State, t api.Txn, key string) (api.State, api.Errno) {
	if !slices.Contains(kinds, s.Kind) {
		return api.State{}, api.ErrKind
	}
	if txn.Check(t) != api.OK {
		return api.State{}, api.ErrTxn
	}
	s = plainNamed(s)
	for place, o := range t.Ops {
		if o.Key == key {
			s = plainOp(s, t, place)
		}
	}
	return s, api.OK
}

// plainValue is Value as the chapter's words tell it.
func plainValue(s api.State) (api.Value, api.Errno) {
	live := map[string]bool{}
	for _, tag := range s.Live {
		live[tag.Elem] = true
	}
	list := []string{}
	switch s.Kind {
	case api.Counter, api.Bound:
		return api.Value{N: s.N}, api.OK
	case api.Set, api.Ids, api.Multi:
		for e := range live {
			list = append(list, e)
		}
	case api.Firm:
		for _, e := range s.Ever {
			if !live[e] && !slices.Contains(list, e) {
				list = append(list, e)
			}
		}
	case api.Last:
		if s.Has {
			list = append(list, s.Top.Elem)
		}
	case api.Flag:
		return api.Value{On: s.Default || len(s.Live) != 0}, api.OK
	default:
		return api.Value{}, api.ErrKind
	}
	slices.Sort(list)
	return api.Value{Elems: list}, api.OK
}

// A room holds texts in bytes that can be changed behind the back of whoever kept one of them.
type room struct{ parts [][]byte }

func (m *room) text(s string) string {
	if s == "" {
		return ""
	}
	b := []byte(s)
	m.parts = append(m.parts, b)
	return unsafe.String(&b[0], len(b))
}

// change: all texts in the room become others.
func (m *room) change() {
	for _, b := range m.parts {
		copy(b, strings.Repeat("?", len(b)))
	}
}

const spare = "spare"

// state: the same state, its texts in the room, each list with spare room behind it.
func (m *room) state(s api.State) api.State {
	ever := make([]string, 0, len(s.Ever)+2)
	for _, e := range s.Ever {
		ever = append(ever, m.text(e))
	}
	live := make([]api.Tag, 0, len(s.Live)+2)
	for _, x := range s.Live {
		x.Elem = m.text(x.Elem)
		live = append(live, x)
	}
	s.Ever, s.Live, s.Top.Elem = ever, live, m.text(s.Top.Elem)
	for i := range 2 {
		ever[:cap(ever)][len(ever)+i] = spare
		live[:cap(live)][len(live)+i].Elem = spare
	}
	return s
}

// txn: the same transaction, its texts in the room, with spare room behind its operations.
func (m *room) txn(t api.Txn) api.Txn {
	ops := make([]api.Op, 0, len(t.Ops)+1)
	for _, o := range t.Ops {
		ops = append(ops, api.Op{Kind: o.Kind, Key: m.text(o.Key), Elem: m.text(o.Elem), N: o.N})
	}
	ops[:cap(ops)][len(ops)] = remove(spare)
	t.Ops = ops
	return t
}

// spareKept: is what lies behind the lists of such a state as it was laid there?
func spareKept(s api.State) bool {
	for i := range 2 {
		if s.Ever[:cap(s.Ever)][len(s.Ever)+i] != spare || s.Live[:cap(s.Live)][len(s.Live)+i] != (api.Tag{Elem: spare}) {
			return false
		}
	}
	return true
}

// wreck: all that the state's lists hold becomes something else, their spare room too.
func wreck(s api.State) {
	for i := range s.Ever[:cap(s.Ever)] {
		s.Ever[:cap(s.Ever)][i] = "!"
	}
	for i := range s.Live[:cap(s.Live)] {
		s.Live[:cap(s.Live)][i] = at(7, 77, 7, "!")
	}
}

// someTag: a tag with few numbers, also of such as no operation has.
func someTag(r *rand.Rand) api.Tag {
	x := at(r.Intn(3), uint64(r.Intn(5)), r.Intn(4), []string{"", "x", "y"}[r.Intn(3)])
	switch r.Intn(12) {
	case 0:
		x.Origin = []int{-1, 7, 8, 256, math.MinInt, math.MaxInt}[r.Intn(6)]
	case 1:
		x.Seq = []uint64{1 << 32, 1 << 63, top}[r.Intn(3)]
	case 2:
		x.Index = []int{-1, 8, math.MinInt, math.MaxInt}[r.Intn(4)]
	}
	return x
}

// someState: a state of that kind with anything in all its fields; half of them have lists in order.
func someState(r *rand.Rand, kind int) api.State {
	s := api.State{Kind: kind, N: starts[r.Intn(len(starts))], Has: r.Intn(3) > 0, Stamp: uint64(r.Intn(4)), Top: someTag(r), Default: r.Intn(2) == 0}
	for range r.Intn(6) {
		s.Ever = append(s.Ever, []string{"", "a", "x", "y", "z"}[r.Intn(5)])
	}
	for range r.Intn(7) {
		s.Live = append(s.Live, someTag(r))
	}
	if r.Intn(2) == 0 {
		slices.Sort(s.Ever)
		s.Ever = slices.Compact(s.Ever)
		slices.SortFunc(s.Live, func(a, b api.Tag) int {
			switch {
			case plainAhead(a, b):
				return -1
			case plainAhead(b, a):
				return 1
			}
			return 0
		})
	}
	return s
}

// someTxn: a transaction that may be, with few numbers.
func someTxn(r *rand.Rand, kinds []int) api.Txn {
	i := r.Intn(3)
	deps := api.Vector{uint64(r.Intn(4)), uint64(r.Intn(4)), uint64(r.Intn(4))}
	if r.Intn(8) == 0 {
		deps[(i+1)%8] = top
	}
	return made(i, 1+uint64(r.Intn(4)), 1+uint64(r.Intn(4)), deps, someOps(r, i, kinds)...)
}
