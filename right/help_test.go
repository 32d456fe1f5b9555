package right_test

import (
	"fmt"
	"math"
	"math/rand"
	"regexp"
	"slices"
	"strconv"
	"strings"
	"testing"
	"unsafe"

	"levee/api"
	"levee/cut"
	"levee/right"
	"levee/rule"
	"levee/txn"
)

const (
	most = 1 << 40 // the greatest N
	full = 1024    // how many transactions a log may have
	top  = math.MaxUint64
)

func counter(key string) api.Rule { return api.Rule{Kind: api.Counter, Key: key} }
func bound(key string, least, start int64) api.Rule {
	return api.Rule{Kind: api.Bound, Key: key, Min: least, Start: start}
}
func set(key string) api.Rule  { return api.Rule{Kind: api.Set, Key: key} }
func firm(key string) api.Rule { return api.Rule{Kind: api.Firm, Key: key} }
func ids(key string) api.Rule  { return api.Rule{Kind: api.Ids, Key: key} }
func flag(key string, start int64) api.Rule {
	return api.Rule{Kind: api.Flag, Key: key, Start: start}
}
func ref(key, other string) api.Rule { return api.Rule{Kind: api.Ref, Key: key, Other: other} }
func either(key, other string) api.Rule {
	return api.Rule{Kind: api.Either, Key: key, Other: other}
}

func grant(key string, member int, n int64) api.Grant {
	return api.Grant{Key: key, Member: member, N: n}
}

func inc(key string, n int64) api.Op { return api.Op{Kind: api.Inc, Key: key, N: n} }
func dec(key string, n int64) api.Op { return api.Op{Kind: api.Dec, Key: key, N: n} }
func give(key, to string, n int64) api.Op {
	return api.Op{Kind: api.Give, Key: key, Elem: to, N: n}
}
func add(key, e string) api.Op    { return api.Op{Kind: api.Add, Key: key, Elem: e} }
func remove(key, e string) api.Op { return api.Op{Kind: api.Remove, Key: key, Elem: e} }
func write(key, e string) api.Op  { return api.Op{Kind: api.Write, Key: key, Elem: e} }
func on(key string) api.Op        { return api.Op{Kind: api.On, Key: key} }
func off(key string) api.Op       { return api.Op{Kind: api.Off, Key: key} }

func some(l ...api.Rule) []api.Rule      { return l }
func granted(l ...api.Grant) []api.Grant { return l }
func ops(l ...api.Op) []api.Op           { return l }

// every: a catalogue with rules of all kinds: two Bounds, two Ids, two Sets and two Flags; Ref and Either stand ahead of their keys.
func every() []api.Rule {
	return some(ref("s", "t"), either("f", "g"), bound("b", 3, 50), counter("c"), set("s"), firm("m"), api.Rule{Kind: api.Last, Key: "l"},
		api.Rule{Kind: api.Multi, Key: "u"}, flag("f", 1), ids("i"), set("t"), flag("g", 0), bound("d", -most, most), ids("j"))
}

// plainGrants: may they be, as the chapter's words tell it?
func plainGrants(grants []api.Grant) api.Errno {
	if len(grants) > 256 {
		return api.ErrLong
	}
	key := regexp.MustCompile(`\A[a-z0-9/]{1,32}\z`)
	for _, g := range grants {
		if !key.MatchString(g.Key) || !slices.Contains([]int{0, 1, 2, 3, 4, 5, 6, 7}, g.Member) || g.N <= 0 || g.N > most {
			return api.ErrArg
		}
	}
	return api.OK
}

// plainAsked: the errors that Units and Make have both, as the chapter's words tell them.
func plainAsked(rules []api.Rule, grants []api.Grant, l api.Logs, member int) api.Errno {
	for _, err := range []api.Errno{rule.Check(rules), plainGrants(grants), cut.Check(l)} {
		if err != api.OK {
			return err
		}
	}
	if member < 0 || member > 7 {
		return api.ErrArg
	}
	return api.OK
}

// plainBound: the errors that Units and Slack have both, as the chapter's words tell them.
func plainBound(rules []api.Rule, key string) api.Errno {
	for _, r := range rules {
		switch {
		case r.Key != key || r.Kind >= api.Ref:
		case r.Kind == api.Bound:
			return api.OK
		default:
			return api.ErrKind
		}
	}
	return api.ErrRule
}

// plainHas: a member's units, as the chapter's words tell them.
func plainHas(grants []api.Grant, l api.Logs, member int, key string) int64 {
	var in, out int64
	for _, g := range grants {
		if g == grant(key, member, g.N) {
			in += g.N
		}
	}
	for _, t := range cut.Order(l, cut.Size(l)) {
		for _, o := range t.Ops {
			switch o {
			case give(key, strconv.Itoa(member), o.N):
				in += o.N
			case inc(key, o.N):
				if t.Origin == member {
					in += o.N
				}
			case dec(key, o.N), give(key, o.Elem, o.N):
				if t.Origin == member {
					out += o.N
				}
			}
		}
	}
	return in - out
}

// plainUnits is Units as the chapter's words tell it.
func plainUnits(rules []api.Rule, grants []api.Grant, l api.Logs, member int, key string) (int64, api.Errno) {
	for _, err := range []api.Errno{plainAsked(rules, grants, l, member), plainBound(rules, key)} {
		if err != api.OK {
			return 0, err
		}
	}
	return plainHas(grants, l, member, key), api.OK
}

// plainMake is Make as the chapter's words tell it: what an operation leaves behind is told by logs that have the operations up to it.
func plainMake(rules []api.Rule, grants []api.Grant, l api.Logs, member int, list []api.Op) (api.Txn, api.Errno) {
	if err := plainAsked(rules, grants, l, member); err != api.OK {
		return api.Txn{}, err
	}
	if err := rule.Form(rules, member, list); err != api.OK {
		return api.Txn{}, err
	}
	kinds := map[string]int{}
	for _, r := range rules {
		if r.Kind <= api.Ids {
			kinds[r.Key] = r.Kind
		}
	}
	before := l[member]
	for i, o := range list {
		var ahead []api.Op
		for _, t := range before {
			ahead = append(ahead, t.Ops...)
		}
		ahead = append(ahead, list[:i]...)
		if kinds[o.Key] == api.Ids && slices.ContainsFunc(ahead, func(p api.Op) bool { return p == add(o.Key, o.Elem) && o == p }) {
			return api.Txn{}, api.ErrTwice
		}
		l[member] = append(slices.Clone(before), api.Txn{Origin: member, Stamp: top, Ops: list[:i+1]})
		if kinds[o.Key] == api.Bound && plainHas(grants, l, member, o.Key) < 0 {
			return api.Txn{}, api.ErrRights
		}
	}
	l[member] = before
	x := api.Txn{Origin: member, Seq: uint64(len(before) + 1), Ops: list}
	for i, log := range l {
		for _, t := range log {
			x.Stamp = max(x.Stamp, t.Stamp)
		}
		x.Deps[i] = uint64(len(log))
	}
	if len(before) >= full || x.Stamp == top {
		return api.Txn{}, api.ErrFull
	}
	x.Stamp++
	return x, api.OK
}

// plainSlack is Slack as the chapter's words tell it.
func plainSlack(rules []api.Rule, l api.Logs, v api.Vector, key string) (int64, api.Errno) {
	for _, err := range []api.Errno{rule.Check(rules), cut.Check(l), plainBound(rules, key)} {
		if err != api.OK {
			return 0, err
		}
	}
	if !cut.Closed(l, v) {
		return 0, api.ErrOpen
	}
	var n int64
	for _, r := range rules {
		if r.Kind == api.Bound && r.Key == key {
			n = r.Start - r.Min
		}
	}
	for _, t := range cut.Order(l, v) {
		for _, o := range t.Ops {
			if o == inc(key, o.N) {
				n += o.N
			}
			if o == dec(key, o.N) {
				n -= o.N
			}
		}
	}
	return n, api.OK
}

// A step of a story is a transaction of a member, which depends on all of its own ahead and on these of the others.
type step struct {
	member int
	deps   api.Vector
	ops    []api.Op
}

// by: a step of the member that depends on none of the others.
func by(member int, l ...api.Op) step { return step{member: member, ops: l} }

// seeing: the step, depending on so many of the others.
func (s step) seeing(deps ...uint64) step {
	copy(s.deps[:], deps)
	return s
}

// behind: the logs with a step more, of the least stamp that may be.
func (s step) behind(l api.Logs) api.Logs {
	s.deps[s.member] = uint64(len(l[s.member]))
	x := api.Txn{Origin: s.member, Seq: s.deps[s.member] + 1, Stamp: cut.Stamp(l, s.deps) + 1, Deps: s.deps, Ops: s.ops}
	l[s.member] = append(slices.Clone(l[s.member]), x)
	return l
}

// story: the logs of these steps.
func story(steps ...step) api.Logs {
	var l api.Logs
	for _, s := range steps {
		l = s.behind(l)
	}
	return l
}

// changed: logs of other memory, in which f has changed one transaction.
func changed(l api.Logs, member, place int, f func(t *api.Txn)) api.Logs {
	l[member] = slices.Clone(l[member])
	l[member][place].Ops = slices.Clone(l[member][place].Ops)
	f(&l[member][place])
	return l
}

// alone: n transactions of a member with these operations, each depending on its own ahead alone.
func alone(member, n int, l ...api.Op) []api.Txn {
	var log []api.Txn
	for k := range uint64(n) {
		x := api.Txn{Origin: member, Seq: k + 1, Stamp: k + 1, Ops: l}
		x.Deps[member] = k
		log = append(log, x)
	}
	return log
}

// all: the vector that has n for each member.
func all(n uint64) api.Vector { return api.Vector{n, n, n, n, n, n, n, n} }

// closedCuts: all closed cuts of the logs.
func closedCuts(l api.Logs) []api.Vector {
	cuts := []api.Vector{{}}
	for i, n := range cut.Size(l) {
		for _, v := range cuts {
			for k := range n {
				v[i] = k + 1
				cuts = append(cuts, v)
			}
		}
	}
	return slices.DeleteFunc(cuts, func(v api.Vector) bool { return !cut.Closed(l, v) })
}

// short: what it holds, in few letters.
func short(x any) string { return fmt.Sprintf("%.300s", fmt.Sprintf("%+v", x)) }

func has(t *testing.T, name string, rules []api.Rule, grants []api.Grant, l api.Logs, member int, key string, want int64, wantErr api.Errno) {
	t.Helper()
	if n, err := right.Units(rules, grants, l, member, key); n != want || err != wantErr {
		t.Errorf("%s: Units of member %d and %.40q, %s: %d, %v; want %d, %v", name, member, key, short(grants), n, err, want, wantErr)
	}
}

func makes(t *testing.T, name string, rules []api.Rule, grants []api.Grant, l api.Logs, member int, list []api.Op, want api.Txn, wantErr api.Errno) {
	t.Helper()
	if x, err := right.Make(rules, grants, l, member, list); !txn.Same(x, want) || err != wantErr {
		t.Errorf("%s: Make of member %d's %s: %+v, %v; want %+v, %v", name, member, short(list), x, err, want, wantErr)
	}
}

// made: Make answers the transaction that stands behind the logs, which may have it added.
func made(t *testing.T, name string, rules []api.Rule, grants []api.Grant, l api.Logs, member int, list []api.Op) api.Txn {
	t.Helper()
	x, err := right.Make(rules, grants, l, member, list)
	want := api.Txn{Origin: member, Seq: uint64(len(l[member]) + 1), Stamp: cut.Stamp(l, cut.Size(l)) + 1, Deps: cut.Size(l), Ops: list}
	if !txn.Same(x, want) || err != api.OK {
		t.Errorf("%s: Make of member %d's %s: %+v, %v; want %+v", name, member, short(list), x, err, want)
		return want
	}
	longer, err := cut.Add(l, x)
	if err != api.OK || cut.Check(longer) != api.OK || len(longer[member]) != len(l[member])+1 {
		t.Errorf("%s: the logs may not have %+v added: %v", name, x, err)
	}
	return x
}

// refused: Make answers that error, and no transaction.
func refused(t *testing.T, name string, rules []api.Rule, grants []api.Grant, l api.Logs, member int, list []api.Op, want api.Errno) {
	t.Helper()
	makes(t, name, rules, grants, l, member, list, api.Txn{}, want)
}

func slack(t *testing.T, name string, rules []api.Rule, l api.Logs, v api.Vector, key string, want int64, wantErr api.Errno) {
	t.Helper()
	if n, err := right.Slack(rules, l, v, key); n != want || err != wantErr {
		t.Errorf("%s: Slack of %.40q at %v: %d, %v; want %d, %v", name, key, v, n, err, want, wantErr)
	}
}

// one: one of these.
func one[T any](r *rand.Rand, l ...T) T { return l[r.Intn(len(l))] }

// someOp: an operation that fits one of the keys of every, and may be the member's.
func someOp(r *rand.Rand, member int) api.Op {
	n := one(r, 1, 1, 2, 3, 5, 1+r.Int63n(20))
	elem := strconv.Itoa(member + 8*r.Intn(3))
	switch r.Intn(12) {
	case 0:
		return inc(one(r, "b", "d"), n)
	case 1, 2, 3:
		return dec(one(r, "b", "b", "d"), n)
	case 4, 5:
		return give(one(r, "b", "d"), strconv.Itoa((member+1+r.Intn(7))%8), n)
	case 6, 7:
		return add(one(r, "i", "j"), elem)
	case 8:
		return remove(one(r, "i", "j", "s", "m"), elem)
	case 9:
		return one(r, inc("c", n), dec("c", n), write("l", elem), write("u", elem), add("m", elem))
	case 10:
		return one(r, off("f"), off("g"), on("f"), on("g"))
	}
	return one(r, add("s", elem), add("t", elem), remove("t", elem))
}

// someOps: operations of the member, mostly with what they owe by every.
func someOps(r *rand.Rand, member int) []api.Op {
	var l []api.Op
	for range 1 + r.Intn(4) {
		o := someOp(r, member)
		l = append(l, o)
		switch owed := o; {
		case r.Intn(20) == 0:
		case o.Key == "s" && o.Kind == api.Add:
			owed.Key = "t"
			l = append(l, owed)
		case o.Key == "t" && o.Kind == api.Remove:
			owed.Key = "s"
			l = append(l, owed)
		case o == off("f"):
			l = append(l, on("g"))
		case o == off("g"):
			l = append(l, on("f"))
		}
	}
	if r.Intn(20) == 0 {
		l = append(l, one(r, inc("nobody", 1), on("b"), add("i", "x")))
	}
	return l
}

// someGrants: of the Bounds of every and of other keys, to the first members.
func someGrants(r *rand.Rand, members int) []api.Grant {
	var l []api.Grant
	for range r.Intn(8) {
		l = append(l, grant(one(r, "b", "b", "d", "i", "nobody"), r.Intn(members), 1+r.Int63n(30)))
	}
	return l
}

// someLogs: logs that may be, of so many transactions, whose operations go by no Form and no rights.
func someLogs(r *rand.Rand, members, n int) api.Logs {
	var l api.Logs
	for range n {
		i, deps := r.Intn(members), api.Vector{}
		for j := range l {
			if r.Intn(2) == 0 {
				deps[j] = uint64(r.Intn(len(l[j]) + 1))
			}
		}
		list := someOps(r, i)
		if r.Intn(4) == 0 {
			list = append(list, add(one(r, "i", "j", "b"), strconv.Itoa(r.Intn(24))))
		}
		l = by(i, list[:min(len(list), 8)]...).seeing(deps[:]...).behind(l)
	}
	return l
}

// A room holds texts in bytes that can be changed behind the back of whoever kept one of them.
type room struct{ parts [][]byte }

func (m *room) text(s string) string {
	if s == "" {
		return ""
	}
	b := []byte(s)
	m.parts = append(m.parts, b)
	return unsafe.String(&b[0], len(b))
}

// change: all texts in the room become others.
func (m *room) change() {
	for _, b := range m.parts {
		copy(b, strings.Repeat("?", len(b)))
	}
}

// What lies behind the lists that a room makes.
var (
	spareRule  = ref("spare", "room")
	spareGrant = grant("spare", 77, -7)
	spareOp    = remove("spare", "room")
)

// rules: the same rules, their texts in the room, with spare room behind them.
func (m *room) rules(l []api.Rule) []api.Rule {
	out := make([]api.Rule, 0, len(l)+1)
	for _, r := range l {
		r.Key, r.Other = m.text(r.Key), m.text(r.Other)
		out = append(out, r)
	}
	out[:cap(out)][len(out)] = spareRule
	return out
}

// grants: the same grants, their keys in the room, with spare room behind them.
func (m *room) grants(l []api.Grant) []api.Grant {
	out := make([]api.Grant, 0, len(l)+1)
	for _, g := range l {
		g.Key = m.text(g.Key)
		out = append(out, g)
	}
	out[:cap(out)][len(out)] = spareGrant
	return out
}

// ops: the same operations, their texts in the room, with spare room behind them.
func (m *room) ops(l []api.Op) []api.Op {
	out := make([]api.Op, 0, len(l)+1)
	for _, o := range l {
		o.Key, o.Elem = m.text(o.Key), m.text(o.Elem)
		out = append(out, o)
	}
	out[:cap(out)][len(out)] = spareOp
	return out
}

// logs: the same logs, their texts in the room, each list with spare room behind it.
func (m *room) logs(l api.Logs) api.Logs {
	for i := range l {
		log := make([]api.Txn, 0, len(l[i])+1)
		for _, t := range l[i] {
			t.Ops = m.ops(t.Ops)
			log = append(log, t)
		}
		log[:cap(log)][len(log)].Seq = 77
		l[i] = log
	}
	return l
}

// rulesKept, grantsKept, opsKept, logsKept: is what lies behind such lists as it was laid there?
func rulesKept(l []api.Rule) bool   { return l[:cap(l)][len(l)] == spareRule }
func grantsKept(l []api.Grant) bool { return l[:cap(l)][len(l)] == spareGrant }
func opsKept(l []api.Op) bool       { return l[:cap(l)][len(l)] == spareOp }
func logsKept(l api.Logs) bool {
	for _, log := range l {
		if log[:cap(log)][len(log)].Seq != 77 {
			return false
		}
		for _, t := range log {
			if !opsKept(t.Ops) {
				return false
			}
		}
	}
	return true
}

func sameLogs(a, b api.Logs) bool {
	for i := range a {
		if !txn.SameList(a[i], b[i]) {
			return false
		}
	}
	return true
}
