package base_test

import (
	"testing"

	"levee/api"
	"levee/base"
)

// P12.1: a key that no rule names is ErrRule, ahead of all other errors.
func TestReadRuleFirst(t *testing.T) {
	b := later()
	b.Held[0].State.Kind = 0
	b.Tail[0][0].Ops = nil
	lists := [][]api.Rule{nil, {}, {rule(api.Set, 0)}, {{Kind: api.Ref, Key: "k/1", Other: "k/3"}}, {{Kind: api.Counter, Key: "k/11", Other: "k/1"}}}
	for _, rules := range lists {
		for _, v := range []api.Vector{{}, b.At, {2, 9}, {3, 3}, {5, 3}, {6, 3}, all(top)} {
			for _, key := range []string{"k/1", "", "k", "k/1 ", "K/1", "k/1\x00"} {
				reads(t, "no rule", b, rules, v, key, api.Value{}, api.ErrRule)
			}
		}
	}
	rules := []api.Rule{rule(api.Counter, 0), rule(api.Set, 0)}
	reads(t, "then it is old", b, rules, api.Vector{2, 9}, "k/1", api.Value{}, api.ErrOld)
	reads(t, "then it is open", b, rules, api.Vector{3, 3}, "k/1", api.Value{}, api.ErrOpen)
	reads(t, "then its state is of no kind", b, rules, api.Vector{5, 3}, "k/1", api.Value{}, api.ErrKind)
	reads(t, "then one may not be", b, rules, api.Vector{5, 3}, "k/3", api.Value{}, api.ErrTxn)
	reads(t, "and nothing is applied", b, rules, b.At, "k/3", api.Value{Elems: []string{"x"}}, api.OK)
	reads(t, "then Value refuses", b, rules, b.At, "k/1", api.Value{}, api.ErrKind)
}

// P12.1: a key may be any, if a rule names it.
func TestReadAnyKey(t *testing.T) {
	b := later()
	for _, key := range []string{"", "K", "\xff", "k/1\x00", string(make([]byte, 100000))} {
		rules := []api.Rule{rule(api.Counter, 1), {Kind: api.Bound, Key: key, Start: 6}}
		reads(t, "any key", b, rules, api.Vector{5, 3}, key, api.Value{N: 6}, api.OK)
		b.Held = append(b.Held, api.Held{Key: key, State: api.State{Kind: api.Last, Has: true, Top: api.Tag{Elem: "e"}}})
		reads(t, "any key, held", b, rules, api.Vector{5, 3}, key, api.Value{Elems: []string{"e"}}, api.OK)
	}
}

// A question is a cut, and what each kind's key is there.
type question struct {
	v    api.Vector
	want map[int]api.Value
}

// P12.1, P12.2: each of the eight kinds, read from a base with nothing folded and from such with something.
func TestReadKinds(t *testing.T) {
	elems := func(l ...string) api.Value { return api.Value{Elems: l} }
	first := []api.Op{inc("k/1", 5), inc("k/2", 7), add("k/3", "x"), add("k/4", "x"), write("k/5", "a"), write("k/6", "a"), off("k/7"), add("k/8", "i")}
	apart := []api.Op{dec("k/1", 2), dec("k/2", 3), remove("k/3", "x"), remove("k/4", "x"), write("k/5", "b"), write("k/6", "b"), on("k/7"), add("k/8", "j")}
	seen := []api.Op{inc("k/1", 1), dec("k/2", 1), remove("k/3", "x"), add("k/4", "x"), write("k/5", "c"), write("k/6", "c"), off("k/7"), remove("k/8", "i")}
	b := fulls(t, story(by(0, first...).stamped(5), by(1, apart...).stamped(3), by(2, seen...).seeing(1, 1)))
	questions := []question{
		{api.Vector{}, map[int]api.Value{1: {N: 1}, 2: {N: 1}, 3: {}, 4: {}, 5: {}, 6: {}, 7: {On: true}, 8: {}}},
		{api.Vector{1}, map[int]api.Value{1: {N: 6}, 2: {N: 8}, 3: elems("x"), 4: elems("x"), 5: elems("a"), 6: elems("a"), 7: {}, 8: elems("i")}},
		{api.Vector{0, 1}, map[int]api.Value{1: {N: -1}, 2: {N: -2}, 3: {}, 4: {}, 5: elems("b"), 6: elems("b"), 7: {On: true}, 8: elems("j")}},
		{api.Vector{1, 1}, map[int]api.Value{1: {N: 4}, 2: {N: 5}, 3: elems("x"), 4: {}, 5: elems("a"), 6: elems("a", "b"), 7: {On: true}, 8: elems("i", "j")}},
		{api.Vector{1, 1, 1}, map[int]api.Value{1: {N: 5}, 2: {N: 4}, 3: {}, 4: elems("x"), 5: elems("c"), 6: elems("c"), 7: {}, 8: elems("j")}},
	}
	rules := catalogue(1)
	for _, to := range questions {
		f := folded(t, b, rules, to.v)
		for _, q := range questions {
			for _, kind := range kinds {
				want, wantErr := q.want[kind], api.OK
				for i := range q.v {
					if q.v[i] < to.v[i] {
						want, wantErr = api.Value{}, api.ErrOld
					}
				}
				reads(t, "by kinds", f, rules, q.v, keyOf(kind), want, wantErr)
			}
		}
		want := api.ErrOpen
		if to.v[1] > 0 {
			want = api.ErrOld
		}
		refuses(t, "the third without the second", f, rules, api.Vector{1, 0, 1}, want)
	}
}

// P12.1: what is asked of a folded base by a rule that wasn't there when it was folded begins with the rule, behind At.
func TestReadByAnotherRule(t *testing.T) {
	b := fulls(t, story(by(0, inc("k/1", 5), inc("k/2", 7)), by(0, inc("k/1", 1), inc("k/2", 2))))
	f := folded(t, b, []api.Rule{rule(api.Counter, 10)}, api.Vector{1})
	rules := []api.Rule{rule(api.Bound, 100), rule(api.Counter, 50)}
	reads(t, "held, with its start", f, rules, api.Vector{2}, "k/1", api.Value{N: 16}, api.OK)
	reads(t, "not held", f, rules, api.Vector{2}, "k/2", api.Value{N: 102}, api.OK)
	g := folded(t, f, rules, api.Vector{2})
	reads(t, "held from now on", g, rules, api.Vector{2}, "k/2", api.Value{N: 102}, api.OK)
}

// P12.1: a number may wrap round.
func TestReadWraps(t *testing.T) {
	b := fulls(t, story(by(0, inc("k/1", 1<<40)), by(1, dec("k/2", 1<<40))))
	rules := []api.Rule{rule(api.Counter, 1<<63-1), rule(api.Bound, -1<<63)}
	reads(t, "up", b, rules, api.Vector{1, 1}, "k/1", api.Value{N: -1<<63 + 1<<40 - 1}, api.OK)
	reads(t, "down", b, rules, api.Vector{1, 1}, "k/2", api.Value{N: 1<<63 - 1<<40}, api.OK)
}

// P12.1: an answer of Read is new memory, also of a state that was handed in.
func TestReadNewMemory(t *testing.T) {
	b := api.Base{Held: []api.Held{
		{Key: "k/3", State: api.State{Kind: api.Set, Live: []api.Tag{{Seq: 1, Elem: "x"}, {Seq: 2, Elem: "y"}}}},
		{Key: "k/4", State: api.State{Kind: api.Firm, Ever: []string{"x", "y"}}},
		{Key: "k/5", State: api.State{Kind: api.Last, Has: true, Top: api.Tag{Elem: "x"}}},
	}}
	var m room
	for kind, want := range map[int][]string{api.Set: {"x", "y"}, api.Firm: {"x", "y"}, api.Last: {"x"}} {
		given := m.base(b)
		got, err := base.Read(given, catalogue(0), api.Vector{}, keyOf(kind))
		m.change()
		wreck(given)
		if !same(got, api.Value{Elems: want}) || err != api.OK {
			t.Errorf("kind %d: %v, %v behind a change of what was handed in", kind, got, err)
		}
		given = m.base(b)
		got, _ = base.Read(given, catalogue(0), api.Vector{}, keyOf(kind))
		fill(got.Elems, "!")
		if !sameBase(given, b) || !spareKept(given) {
			t.Errorf("kind %d: the answer shares memory with %s", kind, shown(given))
		}
	}
}
