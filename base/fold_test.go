package base_test

import (
	"math/rand"
	"slices"
	"testing"

	"levee/api"
	"levee/base"
	"levee/cut"
	"levee/fold"
)

// later: a base that is folded to 3 of member 0 and 1 of member 1, with two transactions behind them of each; the second one of member 1 depends on the first one of member 0.
func later() api.Base {
	return api.Base{
		At:   api.Vector{3, 1},
		Held: []api.Held{{Key: "k/1", State: api.State{Kind: api.Counter, N: 100}}, {Key: "k/3", State: api.State{Kind: api.Set, Live: []api.Tag{{Seq: 3, Elem: "x"}}}}},
		Tail: api.Logs{
			{made(0, 4, 10, api.Vector{0, 1}, inc("k/1", 1)), made(0, 5, 20, api.Vector{0, 1}, inc("k/1", 2), add("k/3", "y"))},
			{made(1, 2, 11, api.Vector{3}, inc("k/1", 4)), made(1, 3, 21, api.Vector{4}, inc("k/1", 8), remove("k/3", "x"))},
		},
	}
}

// P12.1: the chapter's example.
func TestExample(t *testing.T) {
	b := fulls(t, story(by(0, inc("k/1", 5)), by(1, dec("k/1", 1))))
	rules := []api.Rule{rule(api.Counter, 10)}
	f := folded(t, b, rules, api.Vector{1})
	reads(t, "below At", f, rules, api.Vector{}, "k/1", api.Value{}, api.ErrOld)
	reads(t, "at At", f, rules, api.Vector{1}, "k/1", api.Value{N: 15}, api.OK)
	reads(t, "at the end", f, rules, api.Vector{1, 1}, "k/1", api.Value{N: 14}, api.OK)
}

// P12.1: At is the cut, Held the states there, Tail what stands behind.
func TestFold(t *testing.T) {
	b := later()
	rules := []api.Rule{rule(api.Set, 0), rule(api.Counter, 7), rule(api.Bound, 9)}
	held := func(n int64, live ...api.Tag) []api.Held {
		return []api.Held{{Key: "k/1", State: api.State{Kind: api.Counter, N: n}}, {Key: "k/2", State: api.State{Kind: api.Bound, N: 9}}, {Key: "k/3", State: api.State{Kind: api.Set, Live: live}}}
	}
	x, y := api.Tag{Seq: 3, Elem: "x"}, api.Tag{Seq: 5, Index: 1, Elem: "y"}
	becomes(t, "nothing", b, rules, api.Vector{3, 1}, api.Base{At: api.Vector{3, 1}, Held: held(100, x), Tail: b.Tail})
	becomes(t, "one of 0", b, rules, api.Vector{4, 1}, api.Base{At: api.Vector{4, 1}, Held: held(101, x), Tail: api.Logs{b.Tail[0][1:], b.Tail[1]}})
	becomes(t, "two of 0", b, rules, api.Vector{5, 1}, api.Base{At: api.Vector{5, 1}, Held: held(103, x, y), Tail: api.Logs{nil, b.Tail[1]}})
	becomes(t, "one of 1", b, rules, api.Vector{3, 2}, api.Base{At: api.Vector{3, 2}, Held: held(104, x), Tail: api.Logs{b.Tail[0], b.Tail[1][1:]}})
	becomes(t, "one of each", b, rules, api.Vector{4, 2}, api.Base{At: api.Vector{4, 2}, Held: held(105, x), Tail: api.Logs{b.Tail[0][1:], b.Tail[1][1:]}})
	becomes(t, "two of 1", b, rules, api.Vector{4, 3}, api.Base{At: api.Vector{4, 3}, Held: held(113), Tail: api.Logs{b.Tail[0][1:]}})
	becomes(t, "all", b, rules, api.Vector{5, 3}, api.Base{At: api.Vector{5, 3}, Held: held(115, y)})
	refuses(t, "what it depends on isn't there", b, rules, api.Vector{3, 3}, api.ErrOpen)
}

// P12.1: a cut below At in one member alone is ErrOld, whatever else is wrong.
func TestOldFirst(t *testing.T) {
	rules := catalogue(1)
	for i := range api.MaxMembers {
		b := later()
		b.At[i] += 2
		for _, n := range []uint64{0, b.At[i] - 1} {
			for _, v := range []api.Vector{b.At, base.Size(b), all(top)} { // the last one is beyond the size too
				v[i] = n
				refuses(t, "below in one alone", b, rules, v, api.ErrOld)
			}
		}
		v := b.At
		v[i]--
		v[(i+1)%8]++ // and beyond the size, or with something that depends on what isn't there
		refuses(t, "below in one, beyond in another", b, rules, v, api.ErrOld)
	}
	b := later()
	b.At[5] = top
	refuses(t, "far below", b, rules, api.Vector{5, 3, 0, 0, 0, top - 1}, api.ErrOld)
	b.Held[0].State.Kind, b.Tail[0][0].Ops = 0, nil
	refuses(t, "and what Apply refuses", b, rules, api.Vector{5, 3}, api.ErrOld)
	refuses(t, "below with nothing wrong", fulls(t, api.Logs{}), rules, api.Vector{1}, api.ErrOpen)
	for _, v := range []api.Vector{{3}, {0, 1}, {}, {2, 1}, {5, 0}, {2, 3}} {
		refuses(t, "below", later(), rules, v, api.ErrOld)
	}
}

// P12.1: then comes a cut beyond the size, in one member alone too.
func TestBeyondTheSize(t *testing.T) {
	rules := catalogue(1)
	for i := range api.MaxMembers {
		for _, b := range []api.Base{{}, later(), {At: all(7)}} {
			for _, v := range []api.Vector{b.At, base.Size(b)} {
				for _, n := range []uint64{base.Size(b)[i] + 1, base.Size(b)[i] + 2, 1 << 32, 1<<32 + 7, 1 << 63, 1<<63 + 7, top} {
					v[i] = n
					refuses(t, "beyond the size", b, rules, v, api.ErrOpen)
				}
			}
		}
	}
	b := later()
	b.Held[0].State.Kind, b.Tail[0][0].Ops = 0, nil
	refuses(t, "and what Apply refuses", b, rules, api.Vector{6, 3}, api.ErrOpen)
}

// P12.1: no cut is within a size that wrapped round.
func TestSizeWrapped(t *testing.T) {
	for i := range api.MaxMembers {
		b := api.Base{At: one(i, top)}
		becomes(t, "as great as may be", b, nil, one(i, top), b)
		b.Tail[i] = []api.Txn{made(i, top, 1, api.Vector{}, inc("k/1", 1))}
		for _, n := range []uint64{0, 1, top - 1} {
			refuses(t, "below", b, catalogue(0), one(i, n), api.ErrOld)
		}
		refuses(t, "within nothing", b, catalogue(0), one(i, top), api.ErrOpen)
		b.At[i]-- // now the last one just has room
		becomes(t, "room for one", b, []api.Rule{rule(api.Counter, 0)}, one(i, top), api.Base{At: one(i, top), Held: []api.Held{{Key: "k/1", State: api.State{Kind: api.Counter, N: 1}}}})
	}
}

// P12.1: then comes a transaction within the cut that depends on something beyond it: on the Tail's, on nothing, on its own number.
func TestDependsBeyond(t *testing.T) {
	rules := catalogue(1)
	for i := range api.MaxMembers {
		for j := range api.MaxMembers {
			b := api.Base{At: all(4)}
			for n := range b.Tail {
				b.Tail[n] = []api.Txn{made(n, 5, 9, all(4), inc("k/1", 1)), made(n, 6, 10, all(4), inc("k/1", 1))}
			}
			for _, n := range []uint64{5, 6, 7, 1 << 32, 1 << 63, top} {
				b.Tail[i][0].Deps[j] = n
				v := all(4)
				v[i] = 5
				if i != j || n > 5 {
					refuses(t, "it depends beyond the cut", b, rules, v, api.ErrOpen)
				}
				v[i], v[(j+1)%8] = 6, 6 // others go with it
				if n > v[j] {
					refuses(t, "and others", b, rules, v, api.ErrOpen)
				}
				v = all(6)
				v[i] = 4 // it stands behind the cut
				if got, err := base.Fold(b, rules, v); got.At != v || err != api.OK {
					t.Errorf("Fold to %v, which leaves out the one that depends on more: %s, %v", v, shown(got), err)
				}
			}
		}
	}
	b := later()
	b.Tail[1][1].Deps[0] = 6
	refuses(t, "it depends on what isn't there at all", b, rules, api.Vector{5, 3}, api.ErrOpen)
	refuses(t, "and the cut is beyond the size", b, rules, api.Vector{6, 3}, api.ErrOpen)
	b.Tail[1][1].Ops, b.Held[0].State.Kind = nil, -1
	refuses(t, "and what Apply refuses", b, rules, api.Vector{5, 3}, api.ErrOpen)
	b.Tail[1][1].Deps[0] = 4
	refuses(t, "what Apply refuses alone", b, rules[:1], api.Vector{5, 3}, api.ErrKind)
}

// P12.1: what was folded already is asked for nothing: a Tail's Deps are held against the cut, not against the Tail.
func TestDependsOnFolded(t *testing.T) {
	b := api.Base{At: api.Vector{1000, 1 << 40}}
	b.Tail[2] = []api.Txn{made(2, 1, 5, api.Vector{1000, 1 << 40}, inc("k/1", 1))}
	rules := []api.Rule{rule(api.Counter, 1)}
	reads(t, "it depends on all that was folded", b, rules, api.Vector{1000, 1 << 40, 1}, "k/1", api.Value{N: 2}, api.OK)
	b.Tail[2][0].Deps[1]++
	refuses(t, "and on one more", b, rules, api.Vector{1000, 1 << 40, 1}, api.ErrOpen)
}

// P12.1: then come the errors of Apply: a state of no kind, a transaction that may not be, rule by rule.
func TestApplyRefuses(t *testing.T) {
	one, end := api.Vector{4, 1}, api.Vector{5, 3}
	c, s, n := rule(api.Counter, 0), rule(api.Set, 0), rule(api.Bound, 0)
	for _, kind := range wrongKinds {
		b := later()
		b.Held[1].State.Kind = kind
		for _, rules := range [][]api.Rule{{s}, {s, c}, {c, s}, {c, n, s}, {{Kind: api.Counter, Key: "k/3"}}} {
			for _, v := range []api.Vector{one, end} {
				if got, err := base.Fold(b, rules, v); !sameBase(got, api.Base{}) || err != api.ErrKind {
					t.Errorf("a state of kind %d, rules %v: %s, %v", kind, rules, shown(got), err)
				}
			}
			reads(t, "the state of no kind", b, rules, end, "k/3", api.Value{}, api.ErrKind)
		}
		reads(t, "another key", b, []api.Rule{c, s}, end, "k/1", api.Value{N: 115}, api.OK)
		f := folded(t, b, []api.Rule{c, n}, end) // nobody asks for it
		if !sameHeld(f.Held, []api.Held{{Key: "k/1", State: api.State{Kind: api.Counter, N: 115}}, {Key: "k/2", State: begun(api.Bound, 0)}}) {
			t.Errorf("a state of kind %d that no rule names: %v", kind, f.Held)
		}
	}
	for _, spoil := range spoils() {
		b := later()
		spoil(&b.Tail[0][1])
		for _, rules := range [][]api.Rule{{s}, {c}, {n}, {c, s}, {n, s, c}} {
			refuses(t, "one that may not be", b, rules, end, api.ErrTxn)
			if got, err := base.Fold(b, rules, api.Vector{4, 3}); got.At != (api.Vector{4, 3}) || err != api.OK {
				t.Errorf("one that may not be stands behind the cut: %s, %v", shown(got), err)
			}
		}
		f := folded(t, b, nil, end)
		if f.At != end || len(f.Held) != 0 || !sameLogs(f.Tail, api.Logs{}) {
			t.Errorf("no rule applies anything: %s", shown(f))
		}
	}
}

// spoils: ways in which a transaction may not be, wherever it stands in member 0's log; what it depends on stays.
func spoils() []func(x *api.Txn) {
	return []func(x *api.Txn){
		func(x *api.Txn) { x.Ops = nil },
		func(x *api.Txn) { x.Ops = []api.Op{} },
		func(x *api.Txn) { x.Ops = slices.Repeat([]api.Op{inc("k/1", 1)}, 9) },
		func(x *api.Txn) { x.Origin = 8 },
		func(x *api.Txn) { x.Origin = -1 },
		func(x *api.Txn) { x.Origin = 1 },
		func(x *api.Txn) { x.Seq++ },
		func(x *api.Txn) { x.Seq = 0 },
		func(x *api.Txn) { x.Stamp = 0 },
		func(x *api.Txn) { x.Deps[0]-- },
		func(x *api.Txn) { x.Ops = []api.Op{inc("k/1", 0)} },
		func(x *api.Txn) { x.Ops = []api.Op{inc("k/1", 1<<40+1)} },
		func(x *api.Txn) { x.Ops = []api.Op{inc("K", 1)} },
		func(x *api.Txn) { x.Ops = []api.Op{inc("k/9", 1), {Kind: 9, Key: "k/9"}} },
		func(x *api.Txn) { x.Ops = []api.Op{add("k/9", string(make([]byte, 33)))} },
	}
}

// P12.1: of a state of no kind and a transaction that may not be the first rule's error is told.
func TestRuleByRule(t *testing.T) {
	b := later()
	b.Held[1].State.Kind = 9
	b.Tail[0][0].Ops = nil
	c, s, n := rule(api.Counter, 0), rule(api.Set, 0), rule(api.Bound, 0)
	none := api.Rule{Kind: api.Ref, Key: "k/3", Other: "k/1"}
	for _, x := range []struct {
		rules []api.Rule
		want  api.Errno
	}{
		{[]api.Rule{s}, api.ErrKind}, {[]api.Rule{c}, api.ErrTxn}, {[]api.Rule{n}, api.ErrTxn},
		{[]api.Rule{s, c}, api.ErrKind}, {[]api.Rule{c, s}, api.ErrTxn}, {[]api.Rule{n, s}, api.ErrTxn},
		{[]api.Rule{none, c, s}, api.ErrTxn}, {[]api.Rule{none, s, c}, api.ErrKind},
		{[]api.Rule{none, {Kind: api.Flag, Key: "zz"}, s}, api.ErrTxn}, // not the key that is first in order
	} {
		if got, err := base.Fold(b, x.rules, api.Vector{5, 3}); !sameBase(got, api.Base{}) || err != x.want {
			t.Errorf("rules %v: %s, %v, want %v", x.rules, shown(got), err, x.want)
		}
	}
	reads(t, "one key", b, []api.Rule{c, s}, api.Vector{5, 3}, "k/3", api.Value{}, api.ErrKind)
	reads(t, "the other", b, []api.Rule{s, c}, api.Vector{5, 3}, "k/1", api.Value{}, api.ErrTxn)
}

// P12.1: where no transaction of the Tail stands within the cut nothing is applied, so nothing is refused by Apply: the states stay as they are.
func TestNothingApplied(t *testing.T) {
	r := rand.New(rand.NewSource(1))
	for _, kind := range slices.Concat(kinds, wrongKinds) {
		b := later()
		s := someState(r, kind)
		b.Held = append(b.Held, api.Held{Key: "k/8", State: s})
		for i := range b.Tail {
			for k := range b.Tail[i] {
				b.Tail[i][k].Ops, b.Tail[i][k].Stamp = nil, 0
			}
		}
		becomes(t, "a state of any kind", b, []api.Rule{rule(api.Ids, 0)}, b.At, api.Base{At: b.At, Held: b.Held[2:], Tail: b.Tail})
		want, wantErr := fold.Value(s)
		reads(t, "a state of any kind", b, []api.Rule{rule(api.Ids, 0)}, b.At, "k/8", want, wantErr)
		if slices.Contains(wrongKinds, kind) && wantErr != api.ErrKind {
			t.Errorf("Value of kind %d: %v", kind, wantErr)
		}
	}
	becomes(t, "nothing at all", api.Base{}, nil, api.Vector{}, api.Base{})
	becomes(t, "nothing but rules", api.Base{}, []api.Rule{rule(api.Flag, 1), rule(api.Bound, -3)}, api.Vector{}, api.Base{Held: []api.Held{{Key: "k/2", State: api.State{Kind: api.Bound, N: -3}}, {Key: "k/7", State: api.State{Kind: api.Flag, Default: true}}}})
}

// P12.1: behind one transaction a state has the fields alone that its kind names, also where nothing was on its key.
func TestFieldsBehindApply(t *testing.T) {
	r := rand.New(rand.NewSource(2))
	for _, kind := range kinds {
		for range 20 {
			s := someState(r, kind)
			b := later()
			b.Held = []api.Held{{Key: "k/8", State: s}}
			want, err := fold.Apply(s, b.Tail[0][0], "k/8")
			if err != api.OK {
				t.Fatal(err)
			}
			for _, v := range []api.Vector{{4, 1}, {5, 1}, {5, 3}} {
				if f := folded(t, b, []api.Rule{rule(api.Ids, 0)}, v); !sameHeld(f.Held, []api.Held{{Key: "k/8", State: want}}) {
					t.Errorf("to %v: %+v, want %+v", v, f.Held, want)
				}
			}
		}
	}
}

// P12.1: rules of kinds below 1 and above 8 name no key.
func TestRulesOfNoKey(t *testing.T) {
	b, end := later(), api.Vector{5, 3}
	for _, kind := range wrongKinds {
		bad := api.Rule{Kind: kind, Key: "k/1", Other: "k/3", Start: 50}
		becomes(t, "alone", b, []api.Rule{bad}, end, api.Base{At: end})
		reads(t, "alone", b, []api.Rule{bad}, end, "k/1", api.Value{}, api.ErrRule)
		want := []api.Held{{Key: "k/1", State: api.State{Kind: api.Counter, N: 115}}}
		becomes(t, "ahead of the key's rule", b, []api.Rule{bad, rule(api.Counter, 0)}, end, api.Base{At: end, Held: want})
		reads(t, "ahead of the key's rule", b, []api.Rule{bad, rule(api.Counter, 0)}, end, "k/1", api.Value{N: 115}, api.OK)
		bad.Key, want[0].Key, want[0].State.N = "k/2", "k/2", 7
		want[0].State.Kind = api.Bound
		becomes(t, "ahead of the rule of a key without a state", b, []api.Rule{bad, rule(api.Bound, 7)}, end, api.Base{At: end, Held: want})
		reads(t, "ahead of the rule of a key without a state", b, []api.Rule{bad, rule(api.Bound, 7)}, end, "k/2", api.Value{N: 7}, api.OK)
	}
}

// P12.1: of two rules of one key the first one tells kind and start; the key's state is held once.
func TestTwoRules(t *testing.T) {
	b := fulls(t, story(by(0, add("k", "x"), inc("k", 5), write("k", "y"), on("k"))))
	for _, first := range kinds {
		for _, second := range kinds {
			for _, start := range []int64{0, 1, 7} {
				rules := []api.Rule{{Kind: 9, Key: "k", Start: 99}, {Kind: first, Key: "k", Start: start}, {Kind: second, Key: "k", Start: 40}, {Kind: first, Key: "k"}}
				for n, v := range []api.Vector{{}, {1}} {
					s := begun(first, start)
					if n == 1 {
						s, _ = fold.Apply(s, b.Tail[0][0], "k")
					}
					becomes(t, "two rules", b, rules, v, api.Base{At: v, Held: []api.Held{{Key: "k", State: s}}, Tail: api.Logs{b.Tail[0][n:]}})
					want, _ := fold.Value(s)
					reads(t, "two rules", b, rules, v, "k", want, api.OK)
				}
			}
		}
	}
}

// P12.1: what a rule tells beside kind, key and start counts nothing.
func TestRestOfARule(t *testing.T) {
	b, end := later(), api.Vector{5, 3}
	want := folded(t, b, []api.Rule{rule(api.Bound, 5), rule(api.Set, 0)}, end)
	becomes(t, "Min and Other", b, []api.Rule{{Kind: api.Bound, Key: "k/2", Other: "k/1", Min: 90, Start: 5}, {Kind: api.Set, Key: "k/3", Other: "k/3", Min: -1, Start: 8}}, end, want)
}

// P12.1: the same key held twice: the first one counts, wherever it stands, also where Held doesn't rise.
func TestHeldTwice(t *testing.T) {
	state := func(n int64) api.State { return api.State{Kind: api.Counter, N: n} }
	rules := []api.Rule{rule(api.Counter, 1)}
	pad := []api.Held{{Key: "", State: state(7)}, {Key: "k/0", State: state(8)}, {Key: "k/10", State: state(9)}, {Key: "k/2", State: api.State{}}, {Key: "z", State: state(10)}}
	for place := range len(pad) + 1 {
		for again := range len(pad) + 2 {
			for _, turned := range []bool{false, true} {
				l := slices.Clone(pad)
				if turned {
					slices.Reverse(l)
				}
				l = slices.Insert(l, place, api.Held{Key: "k/1", State: state(100)})
				l = slices.Insert(l, again, api.Held{Key: "k/1", State: state(200)})
				want := int64(100)
				if again <= place {
					want = 200
				}
				b := later()
				b.Held = l
				reads(t, "held twice", b, rules, api.Vector{3, 1}, "k/1", api.Value{N: want}, api.OK)
				reads(t, "held twice", b, rules, api.Vector{5, 3}, "k/1", api.Value{N: want + 15}, api.OK)
				becomes(t, "held twice", b, rules, api.Vector{5, 3}, api.Base{At: api.Vector{5, 3}, Held: []api.Held{{Key: "k/1", State: state(want + 15)}}})
			}
		}
	}
}

// P12.1: a Held state of another kind than its rule's counts as it is.
func TestHeldOfAnotherKind(t *testing.T) {
	r := rand.New(rand.NewSource(3))
	for _, kind := range kinds {
		for _, of := range kinds {
			b := later()
			s := someState(r, of)
			b.Held = []api.Held{{Key: "k/3", State: s}}
			for _, x := range plainOrder(b.Tail, all(2)) {
				s, _ = fold.Apply(s, x, "k/3")
			}
			rules := []api.Rule{{Kind: kind, Key: "k/3", Start: 5}}
			becomes(t, "another kind", b, rules, api.Vector{5, 3}, api.Base{At: api.Vector{5, 3}, Held: []api.Held{{Key: "k/3", State: s}}})
			want, err := fold.Value(s)
			reads(t, "another kind", b, rules, api.Vector{5, 3}, "k/3", want, err)
		}
	}
}

// P12.1: Held of the answer rises by bytes, each rule's key once; states that no rule names go.
func TestHeldRises(t *testing.T) {
	keys := []string{"", "\x00", "K", "a", "a/", "aa", "b", "k/1", "k/10", "k/2", "z", "\x7f", "\x80", "é", "\xff", "\xff\xff"}
	r := rand.New(rand.NewSource(4))
	for range 200 {
		var rules []api.Rule
		b := later()
		b.Held = nil
		var named []string
		for range r.Intn(20) {
			k := keys[r.Intn(len(keys))]
			rules = append(rules, api.Rule{Kind: api.Set, Key: k})
			named = append(named, k)
		}
		for range r.Intn(20) {
			b.Held = append(b.Held, api.Held{Key: keys[r.Intn(len(keys))], State: api.State{Kind: api.Counter}})
		}
		slices.Sort(named)
		named = slices.Compact(named)
		f := folded(t, b, rules, api.Vector{4, 2})
		var got []string
		for _, h := range f.Held {
			got = append(got, h.Key)
			was := slices.ContainsFunc(b.Held, func(x api.Held) bool { return x.Key == h.Key })
			if was != (h.State.Kind == api.Counter) || !was && h.State.Kind != api.Set {
				t.Errorf("the state of %q: %+v, held was %s", h.Key, h.State, short(b.Held))
			}
		}
		if !slices.Equal(got, named) {
			t.Errorf("the keys are %q, want %q", got, named)
		}
	}
}

// P12.1: the transactions are applied in chapter 9's order, also where the Tail's stamps don't rise and Origins and Seqs tell of other places.
func TestOrderOfTheTail(t *testing.T) {
	tag := func(origin int, seq uint64, place int, e string) api.Tag {
		return api.Tag{Origin: origin, Seq: seq, Index: place, Elem: e}
	}
	b := api.Base{Tail: api.Logs{
		{made(0, 1, 9, api.Vector{}, write("k/6", "late")), made(3, 1, 1, api.Vector{}, write("k/6", "early"), add("k/3", "x"))},
		{made(3, 2, 5, api.Vector{2, 2, 0, 1}, write("k/6", "sees it"), remove("k/3", "x"))},
	}}
	rules := []api.Rule{rule(api.Multi, 0), rule(api.Set, 0)}
	b.Tail[1][0].Deps = api.Vector{2, 0, 0, 1}
	refuses(t, "it depends on a third member", b, rules, api.Vector{2, 1}, api.ErrOpen)
	b.At[3] = 1
	becomes(t, "by stamps", b, rules, api.Vector{2, 1, 0, 1}, api.Base{At: api.Vector{2, 1, 0, 1}, Held: []api.Held{
		{Key: "k/3", State: api.State{Kind: api.Set}},
		{Key: "k/6", State: api.State{Kind: api.Multi, Live: []api.Tag{tag(0, 1, 0, "late"), tag(3, 2, 0, "sees it")}}},
	}})
	b.Tail[0][1].Stamp = 6 // now it comes behind the one that sees it
	becomes(t, "by stamps", b, rules, api.Vector{2, 1, 0, 1}, api.Base{At: api.Vector{2, 1, 0, 1}, Held: []api.Held{
		{Key: "k/3", State: api.State{Kind: api.Set, Live: []api.Tag{tag(3, 1, 1, "x")}}},
		{Key: "k/6", State: api.State{Kind: api.Multi, Live: []api.Tag{tag(0, 1, 0, "late"), tag(3, 1, 0, "early"), tag(3, 2, 0, "sees it")}}},
	}})
	two := made(4, 1, 3, api.Vector{}, add("k/3", "x"), remove("k/3", "x"), write("k/6", "once"))
	b = api.Base{At: all(1)}
	b.Tail[2], b.Tail[6] = []api.Txn{two}, []api.Txn{two, two}
	v := all(1)
	v[2], v[6] = 2, 3
	if got, want := len(cut.Order(b.Tail, all(9))), 3; got != want {
		t.Fatalf("%d transactions", got)
	}
	becomes(t, "three times the same", b, rules, v, api.Base{At: v, Held: []api.Held{
		{Key: "k/3", State: api.State{Kind: api.Set}},
		{Key: "k/6", State: api.State{Kind: api.Multi, Live: []api.Tag{tag(4, 1, 2, "once"), tag(4, 1, 2, "once"), tag(4, 1, 2, "once")}}},
	}})
}
