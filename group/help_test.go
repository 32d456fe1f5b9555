package group_test

import (
	"fmt"
	"math"
	"math/big"
	"math/rand"
	"regexp"
	"slices"
	"strconv"
	"strings"
	"testing"
	"unsafe"

	"levee/api"
	"levee/group"
	"levee/rule"
)

const (
	most     = 1 << 40         // the greatest magnitude of a rule's numbers and of a grant
	mostText = "1099511627776" // the same, as a word
	full     = 256             // how many entries may be
)

func counter(key string) api.Rule { return api.Rule{Kind: api.Counter, Key: key} }
func bound(key string, least, start int64) api.Rule {
	return api.Rule{Kind: api.Bound, Key: key, Min: least, Start: start}
}
func set(key string) api.Rule { return api.Rule{Kind: api.Set, Key: key} }
func flag(key string, start int64) api.Rule {
	return api.Rule{Kind: api.Flag, Key: key, Start: start}
}
func of(kind int, key string) api.Rule   { return api.Rule{Kind: kind, Key: key} }
func ref(key, other string) api.Rule     { return api.Rule{Kind: api.Ref, Key: key, Other: other} }
func either(key, other string) api.Rule  { return api.Rule{Kind: api.Either, Key: key, Other: other} }
func some(l ...api.Rule) []api.Rule      { return l }
func texts(l ...string) []string         { return l }
func pools(l ...api.Pool) []api.Pool     { return l }
func granted(l ...api.Grant) []api.Grant { return l }

func pool(key string, left int64) api.Pool { return api.Pool{Key: key, Left: left} }
func grant(key string, member int, n int64) api.Grant {
	return api.Grant{Key: key, Member: member, N: n}
}

// The texts of entries.
func join(m int) string  { return "join " + strconv.Itoa(m) }
func leave(m int) string { return "leave " + strconv.Itoa(m) }
func evict(m int) string { return "evict " + strconv.Itoa(m) }
func ask(m int, key string, n int64) string {
	return fmt.Sprintf("grant %d %s %d", m, key, n)
}

// every: a catalogue with rules of all kinds, three Bounds among them.
func every() []api.Rule {
	return some(ref("s", "t"), bound("b", 3, 50), counter("c"), either("f", "g"), set("s"), of(api.Firm, "m"), of(api.Last, "l"),
		bound("a", -7, -5), of(api.Multi, "u"), flag("f", 1), of(api.Ids, "i"), set("t"), flag("g", 0), bound("z/9", 4, 4))
}

// numbers: the list as a set.
func numbers(members ...int) [8]bool {
	var set [8]bool
	for _, m := range members {
		set[m] = true
	}
	return set
}

// below: the members from 0 on that are below n.
func below(n int) []int {
	var l []int
	for m := range n {
		l = append(l, m)
	}
	return l
}

// without: the members of a list that aren't this one.
func without(l []int, m int) []int {
	return slices.DeleteFunc(slices.Clone(l), func(k int) bool { return k == m })
}

// entries: what the chapter's first words say; a number's magnitude is asked besides.
var entries = regexp.MustCompile(`\A(none|(join|leave|evict) [0-7]|grant [0-7] [a-z0-9/]{1,32} ([1-9][0-9]{0,12}))\z`)

var keys = regexp.MustCompile(`\A[a-z0-9/]{1,32}\z`)

// plainFits is Fits as the chapter's words tell it.
func plainFits(s string) bool {
	parts := entries.FindStringSubmatch(s)
	if parts == nil || parts[3] == "" {
		return parts != nil
	}
	n, _ := new(big.Int).SetString(parts[3], 10)
	return n.Cmp(new(big.Int).Lsh(big.NewInt(1), 40)) <= 0
}

// A tale is a group as the chapter's words tell it: who is in, who went, and what was granted. What is left of a pool isn't kept.
type tale struct {
	rules    []api.Rule
	in, gone []int
	epoch    int
	grants   []api.Grant
}

// left: what is left of the key's units; below 0, if it has no pool.
func (p tale) left(key string) int64 {
	for _, r := range p.rules {
		if r.Kind != api.Bound || r.Key != key {
			continue
		}
		n := r.Start - r.Min
		for _, g := range p.grants {
			if g.Key == key {
				n -= g.N
			}
		}
		return n
	}
	return -1
}

// goes: the tale behind an entry.
func (p tale) goes(s string) tale {
	words := strings.Fields(s)
	m, key, n := 0, "", int64(0)
	if len(words) > 1 {
		m, _ = strconv.Atoi(words[1])
	}
	if len(words) > 3 {
		key = words[2]
		n, _ = strconv.ParseInt(words[3], 10, 64)
	}
	is, was := slices.Contains(p.in, m), slices.Contains(p.gone, m)
	switch {
	case words[0] == "join" && !is && !was:
		p.in, p.epoch = append(slices.Clone(p.in), m), p.epoch+1
	case (words[0] == "leave" || words[0] == "evict") && is && len(p.in) > 1:
		p.in, p.gone, p.epoch = without(p.in, m), append(slices.Clone(p.gone), m), p.epoch+1
	case words[0] == "grant" && is && p.left(key) >= n:
		p.grants = append(slices.Clone(p.grants), grant(key, m, n))
	}
	return p
}

// group: what the tale comes to.
func (p tale) group() api.Group {
	g := api.Group{Epoch: p.epoch, Members: numbers(p.in...), Gone: numbers(p.gone...), Grants: p.grants}
	for _, r := range p.rules {
		if r.Kind == api.Bound {
			g.Pools = append(g.Pools, pool(r.Key, p.left(r.Key)))
		}
	}
	return g
}

// plainReplay is Replay as the chapter's words tell it.
func plainReplay(rules []api.Rule, first int, list []string) (api.Group, api.Errno) {
	switch {
	case rule.Check(rules) != api.OK:
		return api.Group{}, rule.Check(rules)
	case !slices.Contains([]int{1, 2, 3, 4, 5, 6, 7, 8}, first):
		return api.Group{}, api.ErrArg
	case len(list) > 256:
		return api.Group{}, api.ErrLong
	case slices.ContainsFunc(list, func(s string) bool { return !plainFits(s) }):
		return api.Group{}, api.ErrGroup
	}
	p := tale{rules: rules, in: below(first)}
	for _, s := range list {
		p = p.goes(s)
	}
	return p.group(), api.OK
}

// same: are they the same group? (A list that holds nothing may be nil or empty.)
func same(a, b api.Group) bool {
	return a.Epoch == b.Epoch && a.Members == b.Members && a.Gone == b.Gone && slices.Equal(a.Pools, b.Pools) && slices.Equal(a.Grants, b.Grants)
}

// short: what it holds, in few letters that may be printed.
func short(x any) string {
	return fmt.Sprintf("%.600s", strings.ToValidUTF8(fmt.Sprintf("%+v", x), "?"))
}

// fits: the call answers that.
func fits(t *testing.T, name, s string, want bool) {
	t.Helper()
	if got := group.Fits(s); got != want {
		t.Errorf("%s: Fits(%.80q): %v; want %v", name, s, got, want)
	}
}

// comes: Replay answers this group.
func comes(t *testing.T, name string, rules []api.Rule, first int, list []string, want api.Group) {
	t.Helper()
	if got, err := group.Replay(rules, first, list); !same(got, want) || err != api.OK {
		t.Errorf("%s: Replay of %d and %s: %s, %v; want %s", name, first, short(list), short(got), err, short(want))
	}
}

// refused: Replay answers that error, and no group.
func refused(t *testing.T, name string, rules []api.Rule, first int, list []string, want api.Errno) {
	t.Helper()
	if got, err := group.Replay(rules, first, list); !same(got, api.Group{}) || err != want {
		t.Errorf("%s: Replay of %d and %s: %s, %v; want %v", name, first, short(list), short(got), err, want)
	}
}

// asTold: Replay answers what the chapter's words tell.
func asTold(t *testing.T, rules []api.Rule, first int, list []string) (api.Group, api.Errno) {
	t.Helper()
	want, wantErr := plainReplay(rules, first, list)
	if got, err := group.Replay(rules, first, list); !same(got, want) || err != wantErr {
		t.Fatalf("Replay of %s, %d, %s: %s, %v; want %s, %v", short(rules), first, short(list), short(got), err, short(want), wantErr)
	}
	return want, wantErr
}

// one: one of these.
func one[T any](r *rand.Rand, l ...T) T { return l[r.Intn(len(l))] }

// strangers: numbers of whom none may be a first one's.
var strangers = []int{0, 9, 10, 16, 17, 256, 257, 264, 1<<32 + 1, 1<<32 + 8, math.MaxInt, -1, -2, -8, -255, math.MinInt, math.MinInt + 1}

// someRules: rules that may be, mostly Bounds, some with a small pool.
func someRules(r *rand.Rand) []api.Rule {
	if r.Intn(4) == 0 {
		return every()
	}
	var rules []api.Rule
	for _, i := range r.Perm(6)[:r.Intn(7)] {
		key := texts("a", "b", "c", "a/", "0", strings.Repeat("z", 32))[i]
		least := one(r, 0, 3, -3, -most, most-9, r.Int63n(most))
		switch r.Intn(6) {
		case 0:
			rules = append(rules, of(one(r, api.Counter, api.Set, api.Firm, api.Last, api.Multi, api.Flag, api.Ids), key))
		case 1:
			rules = append(rules, bound(key, least, most))
		default:
			rules = append(rules, bound(key, least, min(most, least+r.Int63n(one(r, int64(12), 12, 100)))))
		}
	}
	if r.Intn(20) == 0 {
		rules = append(rules, one(r, ref("a", "b"), either("a", "b"), bound("a", 1, 0), bound("A", 0, 0), of(11, "k"), bound("k", 0, most+1)))
	}
	return rules
}

// someFirst: mostly one that may be.
func someFirst(r *rand.Rand) int {
	if r.Intn(20) == 0 {
		return one(r, strangers...)
	}
	return 1 + r.Intn(8)
}

// someEntry: an entry, mostly one that can be done now and then.
func someEntry(r *rand.Rand, rules []api.Rule) string {
	m := r.Intn(8)
	switch r.Intn(10) {
	case 0:
		return "none"
	case 1, 2:
		return join(m)
	case 3:
		return leave(m)
	case 4:
		return evict(m)
	}
	from := some(of(0, "a"), of(0, "b"), of(0, "nobody"))
	if len(rules) > 0 {
		from = rules
	}
	if l := slices.DeleteFunc(slices.Clone(from), func(x api.Rule) bool { return x.Kind != api.Bound }); len(l) > 0 && r.Intn(5) > 0 {
		from = l
	}
	key := one(r, from...).Key
	if !keys.MatchString(key) {
		key = "x"
	}
	return ask(m, key, one(r, 1, 1, 2, 3, 1+r.Int63n(12), 1+r.Int63n(most), most))
}

// spoilt: the text with a byte or a word more, less, or another.
func spoilt(r *rand.Rand, s string) string {
	i, b := r.Intn(len(s)), string([]byte{byte(r.Intn(256))})
	return one(r, s[:i]+b+s[i:], s[:i]+b+s[i+1:], s[:i]+s[i+1:], s+b, s[:i], s[i:], s+" ", " "+s, s+" 1", strings.ToUpper(s), strings.Replace(s, " ", "  ", 1), strings.Replace(s, " ", "\t", 1))
}

// someEntries: so many entries at most, seldom one among them that is none.
func someEntries(r *rand.Rand, rules []api.Rule, most int) []string {
	var l []string
	for range r.Intn(most + 1) {
		l = append(l, someEntry(r, rules))
	}
	if len(l) > 0 && r.Intn(12) == 0 {
		i := r.Intn(len(l))
		l[i] = spoilt(r, l[i])
	}
	return l
}

// A room holds texts in bytes that can be changed behind the back of whoever kept one of them.
type room struct{ parts [][]byte }

func (m *room) text(s string) string {
	if s == "" {
		return ""
	}
	b := []byte(s)
	m.parts = append(m.parts, b)
	return unsafe.String(&b[0], len(b))
}

// change: all texts in the room become others.
func (m *room) change() {
	for _, b := range m.parts {
		copy(b, strings.Repeat("?", len(b)))
	}
}

// What lies behind the lists that a room makes.
var spareRule = bound("spare", -77, 77)

const spareText = "join 7"

// rules: the same rules, their texts in the room, with spare room behind them.
func (m *room) rules(l []api.Rule) []api.Rule {
	out := make([]api.Rule, 0, len(l)+1)
	for _, r := range l {
		r.Key, r.Other = m.text(r.Key), m.text(r.Other)
		out = append(out, r)
	}
	out[:cap(out)][len(out)] = spareRule
	return out
}

// texts: the same texts, in the room, with spare room behind them.
func (m *room) texts(l []string) []string {
	out := make([]string, 0, len(l)+1)
	for _, s := range l {
		out = append(out, m.text(s))
	}
	out[:cap(out)][len(out)] = spareText
	return out
}
