package base_test

import (
	"fmt"
	"math"
	"math/rand"
	"slices"
	"strconv"
	"strings"
	"testing"
	"unsafe"

	"levee/api"
	"levee/base"
	"levee/cut"
	"levee/fold"
	"levee/txn"
)

const (
	full = 1024 // how many transactions a log may have
	top  = math.MaxUint64
)

var kinds = []int{api.Counter, api.Bound, api.Set, api.Firm, api.Last, api.Multi, api.Flag, api.Ids}

// wrongKinds are none of the eight, though some are one where a number is cut off.
var wrongKinds = []int{0, 9, 10, 11, -1, -8, 256, 257, 264, 1<<16 + 3, 1 << 32, 1<<32 + 1, 1<<32 + 8, math.MaxInt, math.MinInt, math.MinInt + 1}

// keyOf: the key that the tests have of each kind.
func keyOf(kind int) string { return "k/" + strconv.Itoa(kind) }

// rule: of that kind's key.
func rule(kind int, start int64) api.Rule {
	return api.Rule{Kind: kind, Key: keyOf(kind), Start: start}
}

// catalogue: a rule of each kind, with this start.
func catalogue(start int64) []api.Rule {
	var l []api.Rule
	for _, kind := range kinds {
		l = append(l, rule(kind, start))
	}
	return l
}

func inc(key string, n int64) api.Op { return api.Op{Kind: api.Inc, Key: key, N: n} }
func dec(key string, n int64) api.Op { return api.Op{Kind: api.Dec, Key: key, N: n} }
func add(key, e string) api.Op       { return api.Op{Kind: api.Add, Key: key, Elem: e} }
func remove(key, e string) api.Op    { return api.Op{Kind: api.Remove, Key: key, Elem: e} }
func write(key, e string) api.Op     { return api.Op{Kind: api.Write, Key: key, Elem: e} }
func on(key string) api.Op           { return api.Op{Kind: api.On, Key: key} }
func off(key string) api.Op          { return api.Op{Kind: api.Off, Key: key} }

// all: the vector that has n for each member.
func all(n uint64) api.Vector { return api.Vector{n, n, n, n, n, n, n, n} }

// one: the vector that has n for the member alone.
func one(member int, n uint64) api.Vector {
	var v api.Vector
	v[member] = n
	return v
}

// made: a member's transaction, which depends on all of its own ahead and on so many of the others.
func made(origin int, seq, stamp uint64, deps api.Vector, ops ...api.Op) api.Txn {
	deps[origin] = seq - 1
	return api.Txn{Origin: origin, Seq: seq, Stamp: stamp, Deps: deps, Ops: ops}
}

// A step of a story is a transaction of a member, which depends on all of its own ahead and on these of the others.
type step struct {
	member int
	stamp  uint64
	deps   api.Vector
	ops    []api.Op
}

// by: a step of the member that depends on none of the others.
func by(member int, ops ...api.Op) step { return step{member: member, ops: ops} }

// seeing: the step, depending on so many of the others.
func (s step) seeing(deps ...uint64) step {
	copy(s.deps[:], deps)
	return s
}

// stamped: the step with this stamp, or with the least that may be, where that is greater.
func (s step) stamped(stamp uint64) step {
	s.stamp = stamp
	return s
}

// behind: the logs with a step more.
func (s step) behind(l api.Logs) api.Logs {
	s.deps[s.member] = uint64(len(l[s.member]))
	x := made(s.member, s.deps[s.member]+1, max(s.stamp, cut.Stamp(l, s.deps)+1), s.deps, s.ops...)
	l[s.member] = append(slices.Clone(l[s.member]), x)
	return l
}

// story: the logs of these steps.
func story(steps ...step) api.Logs {
	var l api.Logs
	for _, s := range steps {
		l = s.behind(l)
	}
	return l
}

// changed: logs of other memory, in which f has changed one transaction.
func changed(l api.Logs, member, place int, f func(t *api.Txn)) api.Logs {
	l = cut.Copy(l)
	f(&l[member][place])
	return l
}

// someOps: operations of few elements, mostly such as the keys' kinds count.
func someOps(r *rand.Rand, member int) []api.Op {
	var l []api.Op
	for range 1 + r.Intn(4) {
		kind := kinds[r.Intn(len(kinds))]
		e, k := []string{"", "x", "y"}[r.Intn(3)], keyOf(kind)
		if r.Intn(10) == 0 {
			k = []string{"k/0", "k/9", "k", "k/1/1"}[r.Intn(4)]
		}
		o := []api.Op{
			api.Counter: []api.Op{inc(k, 1+r.Int63n(5)), dec(k, 1+r.Int63n(5))}[r.Intn(2)],
			api.Bound:   []api.Op{inc(k, 1+r.Int63n(5)), dec(k, 1+r.Int63n(5)), {Kind: api.Give, Key: k, Elem: strconv.Itoa((member + 1) % 8), N: 3}}[r.Intn(3)],
			api.Set:     []api.Op{add(k, e), remove(k, e)}[r.Intn(2)],
			api.Firm:    []api.Op{add(k, e), remove(k, e)}[r.Intn(2)],
			api.Last:    write(k, e+strconv.Itoa(member)),
			api.Multi:   write(k, e+strconv.Itoa(member)),
			api.Flag:    []api.Op{on(k), off(k)}[r.Intn(2)],
			api.Ids:     []api.Op{add(k, e), remove(k, e)}[r.Intn(2)],
		}[kind]
		l = append(l, o)
	}
	return l
}

// someLogs: logs that may be, of so many transactions of the first members, with few stamps.
func someLogs(r *rand.Rand, members, n int) api.Logs {
	var l api.Logs
	for range n {
		i := r.Intn(members)
		var deps api.Vector
		for j := range l {
			if r.Intn(3) == 0 {
				deps[j] = uint64(r.Intn(len(l[j]) + 1))
			}
		}
		l = by(i, someOps(r, i)...).seeing(deps[:]...).stamped(uint64(r.Intn(n))).behind(l)
	}
	return l
}

// cutsWithin: all cuts within a size.
func cutsWithin(size api.Vector) []api.Vector {
	cuts := []api.Vector{{}}
	for i := range size {
		for _, c := range cuts {
			for c[i] < size[i] {
				c[i]++
				cuts = append(cuts, c)
			}
		}
	}
	return cuts
}

func same(a, b api.Value) bool {
	return a.N == b.N && a.On == b.On && slices.Equal(a.Elems, b.Elems)
}

func sameState(a, b api.State) bool {
	rest := func(s api.State) [6]any { return [6]any{s.Kind, s.N, s.Has, s.Stamp, s.Top, s.Default} }
	return slices.Equal(a.Ever, b.Ever) && slices.Equal(a.Live, b.Live) && rest(a) == rest(b)
}

func sameHeld(a, b []api.Held) bool {
	return slices.EqualFunc(a, b, func(x, y api.Held) bool { return x.Key == y.Key && sameState(x.State, y.State) })
}

func sameLogs(a, b api.Logs) bool {
	for i := range a {
		if !txn.SameList(a[i], b[i]) {
			return false
		}
	}
	return true
}

func sameBase(a, b api.Base) bool {
	return a.At == b.At && sameHeld(a.Held, b.Held) && sameLogs(a.Tail, b.Tail)
}

// short: how it is printed, no more than a beginning.
func short(x any) string { return fmt.Sprintf("%.1500s", fmt.Sprint(x)) }

// shown: the base, no more than the beginnings of its parts.
func shown(b api.Base) string {
	return fmt.Sprintf("{at %v, held %s, tail %v %s}", b.At, short(b.Held), cut.Size(b.Tail), short(b.Tail))
}

// begun: what Begin answers of a kind.
func begun(kind int, start int64) api.State {
	s, _ := fold.Begin(kind, start)
	return s
}

// fulls: the base of logs that may be.
func fulls(t *testing.T, l api.Logs) api.Base {
	t.Helper()
	b, err := base.Full(l)
	if err != api.OK {
		t.Fatalf("Full of %+v: %v", l, err)
	}
	return b
}

// folded: the base folded to a cut that may be.
func folded(t *testing.T, b api.Base, rules []api.Rule, to api.Vector) api.Base {
	t.Helper()
	f, err := base.Fold(b, rules, to)
	if err != api.OK {
		t.Fatalf("Fold to %v: %v, of %s", to, err, shown(b))
	}
	return f
}

// becomes: Fold answers this base.
func becomes(t *testing.T, name string, b api.Base, rules []api.Rule, to api.Vector, want api.Base) {
	t.Helper()
	if got, err := base.Fold(b, rules, to); !sameBase(got, want) || err != api.OK {
		t.Errorf("%s: Fold of %s\nto %v by %s: %s, %v\nwant %s", name, shown(b), to, short(rules), shown(got), err, shown(want))
	}
}

// reads: Read, and a view's Value, answer this.
func reads(t *testing.T, name string, b api.Base, rules []api.Rule, v api.Vector, key string, want api.Value, wantErr api.Errno) {
	t.Helper()
	got, err := base.Read(b, rules, v, key)
	if !same(got, want) || err != wantErr {
		t.Errorf("%s: Read of %.40q at %v of %s\nby %s: %v, %v, want %v, %v", name, key, v, shown(b), short(rules), got, err, want, wantErr)
	}
	w := base.NewView(b, rules, v)
	if w.Made() != 0 {
		t.Errorf("%s: a new view made %d", name, w.Made())
	}
	got, err = w.Value(key)
	if !same(got, want) || err != wantErr {
		t.Errorf("%s: a view's Value of %.40q at %v of %s\nby %s: %v, %v, want %v, %v", name, key, v, shown(b), short(rules), got, err, want, wantErr)
	}
	if w.Made() != 1 {
		t.Errorf("%s: behind a Value a view made %d", name, w.Made())
	}
}

// refuses: Fold, and Read of each key that is named, answer this error and nothing beside it.
func refuses(t *testing.T, name string, b api.Base, rules []api.Rule, v api.Vector, want api.Errno) {
	t.Helper()
	if got, err := base.Fold(b, rules, v); !sameBase(got, api.Base{}) || err != want {
		t.Errorf("%s: Fold of %s\nto %v by %s: %s, %v, want %v", name, shown(b), v, short(rules), shown(got), err, want)
	}
	for _, r := range rules {
		if plainNamed(r) {
			reads(t, name, b, rules, v, r.Key, api.Value{}, want)
		}
	}
}

// plainSize is Size as the chapter's words tell it.
func plainSize(b api.Base) api.Vector {
	v := b.At
	for i := range v {
		for range b.Tail[i] {
			v[i]++
		}
	}
	return v
}

// plainOrder: the first transactions of each log, as many as v has, in the order of chapter 9.
func plainOrder(l api.Logs, v api.Vector) []api.Txn {
	ahead := func(a, b api.Txn) bool {
		if a.Stamp == b.Stamp && a.Origin == b.Origin {
			return a.Seq < b.Seq
		}
		if a.Stamp == b.Stamp {
			return a.Origin < b.Origin
		}
		return a.Stamp < b.Stamp
	}
	var out []api.Txn
	for i := range l {
		for k, t := range l[i] {
			if uint64(k) >= v[i] {
				break
			}
			place := len(out)
			for place > 0 && ahead(t, out[place-1]) {
				place--
			}
			out = slices.Insert(out, place, t)
		}
	}
	return out
}

// plainPast: the transactions between At and the cut, or why there are none, as the chapter's words tell it.
func plainPast(b api.Base, v api.Vector) ([]api.Txn, api.Errno) {
	size, within := plainSize(b), v
	for i := range v {
		if v[i] < b.At[i] {
			return nil, api.ErrOld
		}
		within[i] = v[i] - b.At[i]
	}
	for i := range v {
		if v[i] > size[i] {
			return nil, api.ErrOpen
		}
	}
	l := plainOrder(b.Tail, within)
	for _, x := range l {
		for j := range v {
			if x.Deps[j] > v[j] {
				return nil, api.ErrOpen
			}
		}
	}
	return l, api.OK
}

func plainNamed(r api.Rule) bool { return slices.Contains(kinds, r.Kind) }

// plainRule: the key's rule.
func plainRule(rules []api.Rule, key string) (api.Rule, bool) {
	for _, r := range rules {
		if plainNamed(r) && r.Key == key {
			return r, true
		}
	}
	return api.Rule{}, false
}

// plainState: the key's state behind these transactions.
func plainState(b api.Base, rules []api.Rule, l []api.Txn, key string) (api.State, api.Errno) {
	r, _ := plainRule(rules, key)
	s := begun(r.Kind, r.Start)
	for _, h := range slices.Backward(b.Held) {
		if h.Key == key {
			s = h.State
		}
	}
	for _, x := range l {
		var err api.Errno
		if s, err = fold.Apply(s, x, key); err != api.OK {
			return api.State{}, err
		}
	}
	return s, api.OK
}

// plainFold is Fold as the chapter's words tell it.
func plainFold(b api.Base, rules []api.Rule, to api.Vector) (api.Base, api.Errno) {
	l, err := plainPast(b, to)
	if err != api.OK {
		return api.Base{}, err
	}
	out := api.Base{At: to}
	states := map[string]api.State{}
	for _, r := range rules {
		if plainNamed(r) {
			if states[r.Key], err = plainState(b, rules, l, r.Key); err != api.OK {
				return api.Base{}, err
			}
		}
	}
	for k, s := range states {
		out.Held = append(out.Held, api.Held{Key: k, State: s})
	}
	slices.SortFunc(out.Held, func(a, b api.Held) int { return strings.Compare(a.Key, b.Key) })
	for i, log := range b.Tail {
		for k, x := range log {
			if b.At[i]+uint64(k) >= to[i] {
				out.Tail[i] = append(out.Tail[i], x)
			}
		}
	}
	return out, api.OK
}

// plainRead is Read as the chapter's words tell it.
func plainRead(b api.Base, rules []api.Rule, v api.Vector, key string) (api.Value, api.Errno) {
	if _, ok := plainRule(rules, key); !ok {
		return api.Value{}, api.ErrRule
	}
	l, err := plainPast(b, v)
	if err != api.OK {
		return api.Value{}, err
	}
	s, err := plainState(b, rules, l, key)
	if err != api.OK {
		return api.Value{}, err
	}
	return fold.Value(s)
}

// A room holds texts in bytes that can be changed behind the back of whoever kept one of them.
type room struct{ parts [][]byte }

func (m *room) text(s string) string {
	if s == "" {
		return ""
	}
	b := []byte(s)
	m.parts = append(m.parts, b)
	return unsafe.String(&b[0], len(b))
}

// change: all texts in the room become others.
func (m *room) change() {
	for _, b := range m.parts {
		copy(b, strings.Repeat("?", len(b)))
	}
}

const spare = "spare"

var (
	spareTag  = api.Tag{Origin: 7, Index: 7, Seq: 7, Elem: spare}
	spareOp   = api.Op{Kind: 77, Key: spare, Elem: spare, N: -7}
	spareTxn  = api.Txn{Origin: 77, Seq: 7, Stamp: 7, Ops: []api.Op{spareOp}}
	spareRule = api.Rule{Kind: 1, Key: spare, Other: spare, Min: 7, Start: 7}
	spareHeld = api.Held{Key: spare, State: api.State{Kind: 1, N: 7}}
)

// roomy: the list as new memory, with spare room behind it that holds x.
func roomy[T any](l []T, x T) []T {
	out := append(make([]T, 0, len(l)+1), l...)
	out[:cap(out)][len(l)] = x
	return out
}

// behindIt: what the spare room of such a list holds.
func behindIt[T any](l []T) T { return l[:cap(l)][len(l)] }

// state: the same state, its texts in the room, each list with spare room behind it.
func (m *room) state(s api.State) api.State {
	s.Ever, s.Live = roomy(s.Ever, spare), roomy(s.Live, spareTag)
	for i := range s.Ever {
		s.Ever[i] = m.text(s.Ever[i])
	}
	for i := range s.Live {
		s.Live[i].Elem = m.text(s.Live[i].Elem)
	}
	s.Top.Elem = m.text(s.Top.Elem)
	return s
}

func (m *room) logs(l api.Logs) api.Logs {
	for i := range l {
		l[i] = roomy(l[i], spareTxn)
		for k := range l[i] {
			ops := roomy(l[i][k].Ops, spareOp)
			for n := range ops {
				ops[n].Key, ops[n].Elem = m.text(ops[n].Key), m.text(ops[n].Elem)
			}
			l[i][k].Ops = ops
		}
	}
	return l
}

func (m *room) base(b api.Base) api.Base {
	b.Held = roomy(b.Held, spareHeld)
	for i, h := range b.Held {
		b.Held[i] = api.Held{Key: m.text(h.Key), State: m.state(h.State)}
	}
	b.Tail = m.logs(b.Tail)
	return b
}

func (m *room) rules(l []api.Rule) []api.Rule {
	l = roomy(l, spareRule)
	for i := range l {
		l[i].Key, l[i].Other = m.text(l[i].Key), m.text(l[i].Other)
	}
	return l
}

func spareLogsKept(l api.Logs) bool {
	for _, log := range l {
		if !txn.Same(behindIt(log), spareTxn) {
			return false
		}
		for _, x := range log {
			if behindIt(x.Ops) != spareOp {
				return false
			}
		}
	}
	return true
}

// spareKept: is what lies behind the lists of such a base as it was laid there?
func spareKept(b api.Base) bool {
	for _, h := range b.Held {
		if behindIt(h.State.Ever) != spare || behindIt(h.State.Live) != spareTag {
			return false
		}
	}
	return sameHeld([]api.Held{behindIt(b.Held)}, []api.Held{spareHeld}) && spareLogsKept(b.Tail)
}

// fill: each place of the list becomes x, those of its spare room too.
func fill[T any](l []T, x T) {
	l = l[:cap(l)]
	for i := range l {
		l[i] = x
	}
}

func wreckLogs(l api.Logs) {
	for _, log := range l {
		for _, x := range log {
			fill(x.Ops, spareOp)
		}
		fill(log, api.Txn{Origin: 3, Seq: 99})
	}
}

// wreck: all that the base's lists hold becomes something else.
func wreck(b api.Base) {
	for _, h := range b.Held {
		fill(h.State.Ever, "!")
		fill(h.State.Live, spareTag)
	}
	fill(b.Held, spareHeld)
	wreckLogs(b.Tail)
}

// someTag: a tag with few numbers, also of such as no operation has.
func someTag(r *rand.Rand) api.Tag {
	x := api.Tag{Origin: r.Intn(3), Seq: uint64(r.Intn(5)), Index: r.Intn(4), Elem: []string{"", "x", "y"}[r.Intn(3)]}
	if r.Intn(8) == 0 {
		x.Origin, x.Seq = []int{-1, 8, math.MinInt}[r.Intn(3)], top
	}
	return x
}

// someState: a state with anything in it.
func someState(r *rand.Rand, kind int) api.State {
	s := api.State{Kind: kind, N: int64(r.Intn(9) - 4), Has: r.Intn(2) == 0, Stamp: uint64(r.Intn(4)), Top: someTag(r), Default: r.Intn(2) == 0}
	for range r.Intn(4) {
		s.Ever = append(s.Ever, []string{"", "a", "x", "y"}[r.Intn(4)])
		s.Live = append(s.Live, someTag(r))
	}
	return s
}

// someHeld: states of few keys, in no order, some twice, some of another kind than the key's, some of none.
func someHeld(r *rand.Rand) []api.Held {
	var l []api.Held
	for range r.Intn(8) {
		kind := 1 + r.Intn(8)
		k := keyOf(kind)
		switch r.Intn(12) {
		case 0:
			kind = 1 + r.Intn(8)
		case 1:
			k = ""
		}
		if r.Intn(10) == 0 {
			kind = wrongKinds[r.Intn(len(wrongKinds))]
		}
		l = append(l, api.Held{Key: k, State: someState(r, kind)})
	}
	return l
}

// someRules: of few keys, in no order, some twice, some of another kind, some of none.
func someRules(r *rand.Rand) []api.Rule {
	var l []api.Rule
	for range r.Intn(8) {
		kind := r.Intn(11)
		x := api.Rule{Kind: kind, Key: keyOf(kind), Other: keyOf(1 + r.Intn(8)), Min: int64(r.Intn(3)), Start: int64(r.Intn(3))}
		switch r.Intn(8) {
		case 0:
			x.Key = keyOf(r.Intn(10))
		case 1:
			x.Key = ""
		case 2:
			x.Kind = wrongKinds[r.Intn(len(wrongKinds))]
		}
		l = append(l, x)
	}
	return l
}

// someBase: a base with anything in it: transactions that depend on what there is, mostly, and now and then one that may not be.
func someBase(r *rand.Rand) api.Base {
	b := api.Base{Held: someHeld(r)}
	for i := range b.At {
		b.At[i] = uint64(r.Intn(3))
		if r.Intn(30) == 0 {
			b.At[i] = top - uint64(r.Intn(4))
		}
	}
	for range r.Intn(10) {
		i := r.Intn(3)
		deps := b.At
		for j := range deps {
			if r.Intn(6) == 0 {
				deps[j] += uint64(r.Intn(len(b.Tail[j]) + 1))
			}
		}
		if r.Intn(12) == 0 {
			deps[r.Intn(8)] += uint64(r.Intn(3))
		}
		x := made(i, b.At[i]+uint64(len(b.Tail[i]))+1, uint64(1+r.Intn(5)), deps, someOps(r, i)...)
		switch r.Intn(40) {
		case 0:
			x.Ops[0].Kind = 9
		case 1:
			x.Origin, x.Deps[i] = 8, 0
		case 2:
			x = made(5, 1, x.Stamp, api.Vector{}, x.Ops...) // it stands in another one's log
		}
		b.Tail[i] = append(b.Tail[i], x)
	}
	return b
}

// someCut: between At and the size mostly, now and then one below or beyond.
func someCut(r *rand.Rand, b api.Base) api.Vector {
	v := b.At
	for i := range v {
		v[i] += uint64(r.Intn(len(b.Tail[i]) + 1))
		if r.Intn(3) == 0 {
			v[i] = b.At[i] + uint64(len(b.Tail[i]))
		}
		switch r.Intn(60) {
		case 0:
			v[i]--
		case 1:
			v[i]++
		case 2:
			v[i] = top
		}
	}
	return v
}
