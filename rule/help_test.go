package rule_test

import (
	"cmp"
	"fmt"
	"math"
	"math/big"
	"math/rand"
	"regexp"
	"slices"
	"strings"
	"testing"
	"unsafe"

	"levee/api"
	"levee/cut"
	"levee/rule"
	"levee/txn"
	"levee/value"
)

const (
	most = 1 << 40 // the greatest magnitude
	full = 1024    // how many transactions a log may have
	top  = math.MaxUint64
)

func counter(key string, start int64) api.Rule {
	return api.Rule{Kind: api.Counter, Key: key, Start: start}
}
func bound(key string, least, start int64) api.Rule {
	return api.Rule{Kind: api.Bound, Key: key, Min: least, Start: start}
}
func set(key string) api.Rule   { return api.Rule{Kind: api.Set, Key: key} }
func firm(key string) api.Rule  { return api.Rule{Kind: api.Firm, Key: key} }
func last(key string) api.Rule  { return api.Rule{Kind: api.Last, Key: key} }
func multi(key string) api.Rule { return api.Rule{Kind: api.Multi, Key: key} }
func ids(key string) api.Rule   { return api.Rule{Kind: api.Ids, Key: key} }
func flag(key string, start int64) api.Rule {
	return api.Rule{Kind: api.Flag, Key: key, Start: start}
}
func ref(key, other string) api.Rule { return api.Rule{Kind: api.Ref, Key: key, Other: other} }
func either(key, other string) api.Rule {
	return api.Rule{Kind: api.Either, Key: key, Other: other}
}

func inc(key string, n int64) api.Op { return api.Op{Kind: api.Inc, Key: key, N: n} }
func dec(key string, n int64) api.Op { return api.Op{Kind: api.Dec, Key: key, N: n} }
func give(key, to string, n int64) api.Op {
	return api.Op{Kind: api.Give, Key: key, Elem: to, N: n}
}
func add(key, e string) api.Op    { return api.Op{Kind: api.Add, Key: key, Elem: e} }
func remove(key, e string) api.Op { return api.Op{Kind: api.Remove, Key: key, Elem: e} }
func write(key, e string) api.Op  { return api.Op{Kind: api.Write, Key: key, Elem: e} }
func on(key string) api.Op        { return api.Op{Kind: api.On, Key: key} }
func off(key string) api.Op       { return api.Op{Kind: api.Off, Key: key} }

func some(l ...api.Rule) []api.Rule { return l }
func ops(l ...api.Op) []api.Op      { return l }

// every: a catalogue with a rule of each kind, whose keys are the kinds' words (the second set and flag have another one); Ref and Either stand ahead of their keys.
func every() []api.Rule {
	return some(ref("set", "set2"), either("flag", "flag2"), counter("counter", -7), bound("bound", 3, 5), set("set"), firm("firm"), last("last"), multi("multi"), flag("flag", 1), ids("ids"), set("set2"), flag("flag2", 0))
}

// amount: is the magnitude at most 2^40?
func amount(n int64) bool { return new(big.Int).Abs(big.NewInt(n)).Cmp(big.NewInt(most)) <= 0 }

var wholes = regexp.MustCompile(`^(0|-?[1-9][0-9]{0,12})$`)

// plainWhole is Whole as the chapter's words tell it.
func plainWhole(s string) (int64, bool) {
	if !wholes.MatchString(s) {
		return 0, false
	}
	n, _ := new(big.Int).SetString(s, 10)
	if !amount(n.Int64()) {
		return 0, false
	}
	return n.Int64(), true
}

// plainFind is Find as the chapter's words tell it.
func plainFind(rules []api.Rule, key string) int {
	for i, r := range rules {
		if slices.Contains([]int{1, 2, 3, 4, 5, 6, 7, 8}, r.Kind) && r.Key == key {
			return i
		}
	}
	return -1
}

// plainMay: may the rule at this place be, as the chapter's words tell it?
func plainMay(rules []api.Rule, place int) bool {
	r := rules[place]
	of := func(key string, kind int, start ...int64) bool {
		return slices.ContainsFunc(rules, func(r api.Rule) bool {
			return r.Kind == kind && r.Key == key && (len(start) == 0 || r.Start == start[0])
		})
	}
	if !txn.Key(r.Key) || !amount(r.Min) || !amount(r.Start) {
		return false
	}
	first := plainFind(rules[:place], r.Key) < 0
	switch r.Kind {
	case api.Counter:
		return first && r == counter(r.Key, r.Start)
	case api.Bound:
		return first && r == bound(r.Key, r.Min, r.Start) && !(r.Start < r.Min)
	case api.Set, api.Firm, api.Last, api.Multi, api.Ids:
		return first && r == api.Rule{Kind: r.Kind, Key: r.Key}
	case api.Flag:
		return first && (r == flag(r.Key, 0) || r == flag(r.Key, 1))
	case api.Ref:
		return r == ref(r.Key, r.Other) && r.Key != r.Other && of(r.Key, api.Set) && of(r.Other, api.Set)
	case api.Either:
		return r == either(r.Key, r.Other) && r.Key != r.Other && of(r.Key, api.Flag) && of(r.Other, api.Flag) &&
			(of(r.Key, api.Flag, 1) || of(r.Other, api.Flag, 1))
	}
	return false
}

// plainCheck is Check as the chapter's words tell it.
func plainCheck(rules []api.Rule) api.Errno {
	if len(rules) > 64 {
		return api.ErrFull
	}
	for i := range rules {
		if !plainMay(rules, i) {
			return api.ErrRule
		}
	}
	return api.OK
}

// plainLine: the rule of a line that is words, as the chapter's table tells it.
func plainLine(line string) (api.Rule, bool) {
	words := append(strings.Split(line, " "), "", "", "")
	n := len(words) - 3
	a, okA := plainWhole(words[2])
	b, okB := plainWhole(words[3])
	key := words[1]
	plain := map[string]int{"set": api.Set, "firm": api.Firm, "last": api.Last, "multi": api.Multi, "ids": api.Ids}
	switch {
	case words[0] == "counter" && n == 3 && okA:
		return counter(key, a), true
	case words[0] == "bound" && n == 4 && okA && okB:
		return bound(key, a, b), true
	case words[0] == "flag" && n == 3 && okA:
		return flag(key, a), true
	case words[0] == "ref" && n == 3:
		return ref(key, words[2]), true
	case words[0] == "either" && n == 3:
		return either(key, words[2]), true
	case plain[words[0]] != 0 && n == 2:
		return api.Rule{Kind: plain[words[0]], Key: key}, true
	}
	return api.Rule{}, false
}

// plainParse is Parse as the chapter's words tell it.
func plainParse(text string) ([]api.Rule, int, api.Errno) {
	if len(text) > 65536 {
		return nil, 0, api.ErrLong
	}
	var rules []api.Rule
	from, number := 0, 1
	text += "\n"
	for i := range len(text) {
		if text[i] != 10 {
			continue
		}
		line := text[from:i]
		if line != "" && line[0] != '#' {
			r, ok := plainLine(line)
			if !ok {
				return nil, number, api.ErrWord
			}
			rules = append(rules, r)
		}
		from, number = i+1, number+1
	}
	if err := plainCheck(rules); err != api.OK {
		return nil, 0, err
	}
	return rules, 0, api.OK
}

// fitting: the kinds of operations that fit each kind of rules.
var fitting = [11][]int{
	api.Counter: {api.Inc, api.Dec}, api.Bound: {api.Inc, api.Dec, api.Give},
	api.Set: {api.Add, api.Remove}, api.Firm: {api.Add, api.Remove}, api.Ids: {api.Add, api.Remove},
	api.Last: {api.Write}, api.Multi: {api.Write}, api.Flag: {api.On, api.Off},
}

// plainForm is Form as the chapter's words tell it.
func plainForm(rules []api.Rule, member int, l []api.Op) api.Errno {
	if err := plainCheck(rules); err != api.OK {
		return err
	}
	if member < 0 || member > 7 || len(l) == 0 || len(l) > 8 {
		return api.ErrTxn
	}
	for _, o := range l {
		if !txn.Op(o, member) {
			return api.ErrTxn
		}
	}
	for _, o := range l {
		place := plainFind(rules, o.Key)
		if place < 0 {
			return api.ErrRule
		}
		if !slices.Contains(fitting[rules[place].Kind], o.Kind) {
			return api.ErrKind
		}
	}
	if !plainOwed(rules, member, l) {
		return api.ErrForm
	}
	return api.OK
}

// plainOwed: is all there that operations that fit owe, as the chapter's words tell it?
func plainOwed(rules []api.Rule, member int, l []api.Op) bool {
	has := func(kind int, key, e string) bool {
		return slices.ContainsFunc(l, func(o api.Op) bool { return o.Kind == kind && o.Key == key && o.Elem == e })
	}
	for _, o := range l {
		if has(api.Add, o.Key, o.Elem) && has(api.Remove, o.Key, o.Elem) || has(api.On, o.Key, "") && has(api.Off, o.Key, "") {
			return false
		}
		n, ok := plainWhole(o.Elem)
		if o.Kind == api.Add && rules[plainFind(rules, o.Key)].Kind == api.Ids && (!ok || n < 0 || n-8*(n/8) != int64(member)) {
			return false
		}
		for _, r := range rules {
			if r.Kind == api.Ref && has(api.Add, r.Key, o.Elem) && !has(api.Add, r.Other, o.Elem) {
				return false
			}
			if r.Kind == api.Ref && has(api.Remove, r.Other, o.Elem) && !has(api.Remove, r.Key, o.Elem) {
				return false
			}
			if r.Kind == api.Either && (has(api.Off, r.Key, "") && !has(api.On, r.Other, "") || has(api.Off, r.Other, "") && !has(api.On, r.Key, "")) {
				return false
			}
		}
	}
	return true
}

// plainHolds is Holds as the chapter's words tell it.
func plainHolds(rules []api.Rule, l api.Logs, v api.Vector) (bool, api.Errno) {
	for _, err := range []api.Errno{plainCheck(rules), cut.Check(l)} {
		if err != api.OK {
			return false, err
		}
	}
	if !cut.Closed(l, v) {
		return false, api.ErrOpen
	}
	for _, r := range rules {
		if !plainHeld(rules, r, l, v) {
			return false, api.OK
		}
	}
	return true, api.OK
}

// plainHeld: does the rule hold, as the chapter's words tell it?
func plainHeld(rules []api.Rule, r api.Rule, l api.Logs, v api.Vector) bool {
	of := func(key string) api.Value {
		for _, q := range rules {
			if q.Key == key && q.Kind <= api.Ids {
				w, _ := value.Value(q.Kind, q.Start, l, v, key)
				return w
			}
		}
		return api.Value{}
	}
	switch r.Kind {
	case api.Bound:
		return !(of(r.Key).N < r.Min)
	case api.Ids:
		var added []string
		for _, t := range cut.Order(l, v) {
			for _, o := range t.Ops {
				if o.Kind == api.Add && o.Key == r.Key {
					added = append(added, o.Elem)
				}
			}
		}
		n := len(added)
		slices.Sort(added)
		return len(slices.Compact(added)) == n
	case api.Ref:
		for _, e := range of(r.Key).Elems {
			if !slices.Contains(of(r.Other).Elems, e) {
				return false
			}
		}
	case api.Either:
		return of(r.Key).On || of(r.Other).On
	}
	return true
}

// A step of a story is a transaction of a member, which depends on all of its own ahead and on these of the others.
type step struct {
	member int
	deps   api.Vector
	ops    []api.Op
}

// by: a step of the member that depends on none of the others.
func by(member int, l ...api.Op) step { return step{member: member, ops: l} }

// seeing: the step, depending on so many of the others.
func (s step) seeing(deps ...uint64) step {
	copy(s.deps[:], deps)
	return s
}

// behind: the logs with a step more, of the least stamp that may be.
func (s step) behind(l api.Logs) api.Logs {
	s.deps[s.member] = uint64(len(l[s.member]))
	x := api.Txn{Origin: s.member, Seq: s.deps[s.member] + 1, Stamp: cut.Stamp(l, s.deps) + 1, Deps: s.deps, Ops: s.ops}
	l[s.member] = append(slices.Clone(l[s.member]), x)
	return l
}

// story: the logs of these steps.
func story(steps ...step) api.Logs {
	var l api.Logs
	for _, s := range steps {
		l = s.behind(l)
	}
	return l
}

// changed: logs of other memory, in which f has changed one transaction.
func changed(l api.Logs, member, place int, f func(t *api.Txn)) api.Logs {
	l[member] = slices.Clone(l[member])
	l[member][place].Ops = slices.Clone(l[member][place].Ops)
	f(&l[member][place])
	return l
}

// all: the vector that has n for each member.
func all(n uint64) api.Vector { return api.Vector{n, n, n, n, n, n, n, n} }

// short: what it holds, in few letters.
func short(x any) string { return fmt.Sprintf("%.300s", fmt.Sprintf("%+v", x)) }

func checks(t *testing.T, name string, rules []api.Rule, want api.Errno) {
	t.Helper()
	if err := rule.Check(rules); err != want {
		t.Errorf("%s: Check of %s: %v, want %v", name, short(rules), err, want)
	}
}

func parses(t *testing.T, name, text string, rules []api.Rule, number int, want api.Errno) {
	t.Helper()
	got, n, err := rule.Parse(text)
	if !slices.Equal(got, rules) || n != number || err != want {
		t.Errorf("%s: Parse of %.300q: %s, %d, %v; want %s, %d, %v", name, text, short(got), n, err, short(rules), number, want)
	}
}

func prints(t *testing.T, name string, rules []api.Rule, text string, want api.Errno) {
	t.Helper()
	if got, err := rule.Print(rules); got != text || err != want {
		t.Errorf("%s: Print of %s: %.300q, %v; want %.300q, %v", name, short(rules), got, err, text, want)
	}
}

func forms(t *testing.T, name string, rules []api.Rule, member int, l []api.Op, want api.Errno) {
	t.Helper()
	if err := rule.Form(rules, member, l); err != want {
		t.Errorf("%s: Form of member %d's %s: %v, want %v", name, member, short(l), err, want)
	}
}

func holds(t *testing.T, name string, rules []api.Rule, l api.Logs, v api.Vector, want bool) {
	t.Helper()
	if got, err := rule.Holds(rules, l, v); got != want || err != api.OK {
		t.Errorf("%s: Holds of %s at %v: %t, %v; want %t", name, short(rules), v, got, err, want)
	}
}

// refuses: Holds answers that error, and false.
func refuses(t *testing.T, name string, rules []api.Rule, l api.Logs, v api.Vector, want api.Errno) {
	t.Helper()
	if got, err := rule.Holds(rules, l, v); got || err != want {
		t.Errorf("%s: Holds of %s at %v: %t, %v; want false, %v", name, short(rules), v, got, err, want)
	}
}

// one: one of these.
func one[T any](r *rand.Rand, l ...T) T { return l[r.Intn(len(l))] }

// pool: keys of few letters, and such of all.
func pool() []string {
	return []string{"a", "b", "c", "a/", "0", "k/1", "set", "z9", strings.Repeat("z", 32), "a/b/c"}
}

// someStart: a number that may be, at the edges often.
func someStart(r *rand.Rand) int64 {
	return one(r, 0, 1, -1, 5, -5, 10, most, -most, most-1, 1-most, r.Int63n(most))
}

// goodRules: a catalogue by chance that may be; of n keys at most, with some Refs and Eithers, anywhere.
func goodRules(r *rand.Rand, n int) []api.Rule {
	return rulesOf(r, n, api.Counter, api.Bound, api.Set, api.Set, api.Set, api.Firm, api.Last, api.Multi, api.Flag, api.Flag, api.Flag, api.Ids)
}

// rulesOf: such a catalogue, its keys of these kinds.
func rulesOf(r *rand.Rand, n int, kinds ...int) []api.Rule {
	var rules []api.Rule
	var sets, flags, lit []string
	keys := pool()
	r.Shuffle(len(keys), func(i, j int) { keys[i], keys[j] = keys[j], keys[i] })
	for _, key := range keys[:r.Intn(min(n, len(keys))+1)] {
		switch kind := one(r, kinds...); kind {
		case api.Counter:
			rules = append(rules, counter(key, someStart(r)))
		case api.Bound:
			a, b := someStart(r), someStart(r)
			rules = append(rules, bound(key, min(a, b), max(a, b)))
		case api.Flag:
			start := r.Int63n(2)
			flags = append(flags, key)
			if start == 1 {
				lit = append(lit, key)
			}
			rules = append(rules, flag(key, start))
		default:
			if kind == api.Set {
				sets = append(sets, key)
			}
			rules = append(rules, api.Rule{Kind: kind, Key: key})
		}
	}
	for range r.Intn(4) {
		if len(sets) > 1 {
			i := r.Intn(len(sets))
			rules = append(rules, ref(sets[i], sets[(i+1+r.Intn(len(sets)-1))%len(sets)]))
		}
		if len(flags) > 1 && len(lit) > 0 {
			a, b := one(r, lit...), one(r, flags...)
			if a != b {
				pair := []string{a, b}
				r.Shuffle(2, func(i, j int) { pair[i], pair[j] = pair[j], pair[i] })
				rules = append(rules, either(pair[0], pair[1]))
			}
		}
	}
	r.Shuffle(len(rules), func(i, j int) { rules[i], rules[j] = rules[j], rules[i] })
	return rules
}

// anyRules: a catalogue that may be but for a field or two, if for these.
func anyRules(r *rand.Rand) []api.Rule {
	rules := goodRules(r, 8)
	for range r.Intn(3) {
		if len(rules) == 0 {
			return rules
		}
		x := &rules[r.Intn(len(rules))]
		switch r.Intn(6) {
		case 0:
			x.Kind = r.Intn(13) - 1
		case 1:
			x.Key = one(r, append(pool(), "", "A", "a b", strings.Repeat("a", 33))...)
		case 2:
			x.Other = one(r, append(pool(), "", "", "A")...)
		case 3:
			x.Min = one(r, someStart(r), 0, most+1, -most-1, math.MinInt64)
		case 4:
			x.Start = one(r, someStart(r), 0, 1, 2, most+1, -most-1, math.MaxInt64)
		case 5:
			rules = append(rules, *x)
		}
	}
	return rules
}

// someOp: an operation of the member, mostly on one of the rules' keys, that mostly fits.
func someOp(r *rand.Rand, rules []api.Rule, member int) api.Op {
	o := api.Op{Kind: 1 + r.Intn(8), Key: "nobody"}
	if len(rules) > 0 && r.Intn(40) > 0 {
		x := one(r, rules...)
		o.Key = one(r, x.Key, cmp.Or(x.Other, x.Key))
		if place := plainFind(rules, o.Key); place >= 0 && r.Intn(40) > 0 {
			o.Kind = one(r, fitting[rules[place].Kind]...)
		}
	}
	switch o.Kind {
	case api.Inc, api.Dec, api.Give:
		o.N = one[int64](r, 1, 2, 3, most)
	case api.Add, api.Remove, api.Write:
		o.Elem = one(r, "", "x", "y", rule.Text(int64(member)), rule.Text(int64(member+8*r.Intn(3))), "8")
	}
	if o.Kind == api.Give {
		o.Elem = rule.Text(int64(member+1+r.Intn(7)) % 8)
	}
	if r.Intn(100) == 0 {
		o.N++
	}
	return o
}

// someOps: operations of the member; often with what they owe.
func someOps(r *rand.Rand, rules []api.Rule, member int) []api.Op {
	var l []api.Op
	for range 1 + r.Intn(3) {
		l = append(l, someOp(r, rules, member))
	}
	if r.Intn(3) > 0 {
		l = withDebts(rules, l)
	}
	r.Shuffle(len(l), func(i, j int) { l[i], l[j] = l[j], l[i] })
	return l
}

// withDebts: the operations with all that Refs and Eithers ask for, as far as nine.
func withDebts(rules []api.Rule, l []api.Op) []api.Op {
	for i := 0; i < len(l); i++ {
		for _, r := range rules {
			owed := l[i]
			switch {
			case r.Kind == api.Ref && l[i].Kind == api.Add && l[i].Key == r.Key:
				owed.Key = r.Other
			case r.Kind == api.Ref && l[i].Kind == api.Remove && l[i].Key == r.Other:
				owed.Key = r.Key
			case r.Kind == api.Either && l[i].Kind == api.Off && l[i].Key == r.Key:
				owed = on(r.Other)
			case r.Kind == api.Either && l[i].Kind == api.Off && l[i].Key == r.Other:
				owed = on(r.Key)
			}
			if !slices.Contains(l, owed) && len(l) < 9 {
				l = append(l, owed)
			}
		}
	}
	return l
}

// someDeps: what a transaction may depend on, closed by chance alone.
func someDeps(r *rand.Rand, l api.Logs) api.Vector {
	var deps api.Vector
	for j := range l {
		if r.Intn(2) == 0 {
			deps[j] = uint64(r.Intn(len(l[j]) + 1))
		}
	}
	return deps
}

// someCut: within the logs, and closed by chance alone.
func someCut(r *rand.Rand, l api.Logs) api.Vector {
	v := cut.Size(l)
	for i := range v {
		if r.Intn(2) == 0 {
			v[i] = uint64(r.Intn(int(v[i] + 1)))
		}
	}
	return v
}

// closedCuts: all closed cuts of the logs.
func closedCuts(l api.Logs) []api.Vector {
	cuts := []api.Vector{{}}
	for i, n := range cut.Size(l) {
		for _, v := range cuts {
			for k := range n {
				v[i] = k + 1
				cuts = append(cuts, v)
			}
		}
	}
	return slices.DeleteFunc(cuts, func(v api.Vector) bool { return !cut.Closed(l, v) })
}

// A room holds texts in bytes that can be changed behind the back of whoever kept one of them.
type room struct{ parts [][]byte }

func (m *room) text(s string) string {
	if s == "" {
		return ""
	}
	b := []byte(s)
	m.parts = append(m.parts, b)
	return unsafe.String(&b[0], len(b))
}

// change: all texts in the room become others.
func (m *room) change() {
	for _, b := range m.parts {
		copy(b, strings.Repeat("?", len(b)))
	}
}

// What lies behind the lists that a room makes.
var (
	spareRule = ref("spare", "room")
	spareOp   = remove("spare", "room")
)

// rules: the same rules, their texts in the room, with spare room behind them.
func (m *room) rules(l []api.Rule) []api.Rule {
	out := make([]api.Rule, 0, len(l)+1)
	for _, r := range l {
		r.Key, r.Other = m.text(r.Key), m.text(r.Other)
		out = append(out, r)
	}
	out[:cap(out)][len(out)] = spareRule
	return out
}

// ops: the same operations, their texts in the room, with spare room behind them.
func (m *room) ops(l []api.Op) []api.Op {
	out := make([]api.Op, 0, len(l)+1)
	for _, o := range l {
		o.Key, o.Elem = m.text(o.Key), m.text(o.Elem)
		out = append(out, o)
	}
	out[:cap(out)][len(out)] = spareOp
	return out
}

// logs: the same logs, their texts in the room, each list with spare room behind it.
func (m *room) logs(l api.Logs) api.Logs {
	for i := range l {
		log := make([]api.Txn, 0, len(l[i])+1)
		for _, t := range l[i] {
			t.Ops = m.ops(t.Ops)
			log = append(log, t)
		}
		log[:cap(log)][len(log)].Seq = 77
		l[i] = log
	}
	return l
}

// rulesKept, opsKept, logsKept: is what lies behind such lists as it was laid there?
func rulesKept(l []api.Rule) bool { return l[:cap(l)][len(l)] == spareRule }
func opsKept(l []api.Op) bool     { return l[:cap(l)][len(l)] == spareOp }
func logsKept(l api.Logs) bool {
	for _, log := range l {
		if log[:cap(log)][len(log)].Seq != 77 {
			return false
		}
		for _, t := range log {
			if !opsKept(t.Ops) {
				return false
			}
		}
	}
	return true
}
