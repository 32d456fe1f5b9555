package base_test

import (
	"math/rand"
	"sync"
	"testing"
	"time"
	"unsafe"

	"levee/api"
	"levee/base"
)

// tells: a view's Value answers this.
func tells(t *testing.T, name string, w *base.View, key string, want api.Value, wantErr api.Errno) {
	t.Helper()
	if got, err := w.Value(key); !same(got, want) || err != wantErr {
		t.Errorf("%s: a view's Value of %.40q: %v, %v, want %v, %v", name, key, got, err, want, wantErr)
	}
}

// wasMade: so often has it folded.
func wasMade(t *testing.T, name string, w *base.View, want int64) {
	t.Helper()
	if got := w.Made(); got != want {
		t.Errorf("%s: made is %d, want %d", name, got, want)
	}
}

// P12.4: Made is 0 ahead of the first Value, then 1, whatever is asked and whatever is answered.
func TestMade(t *testing.T) {
	bad := later()
	bad.Held[0].State.Kind = 0
	bad.Tail[0][0].Ops = nil
	rules := []api.Rule{rule(api.Counter, 0), rule(api.Set, 0)}
	for _, c := range []struct {
		name  string
		b     api.Base
		rules []api.Rule
		v     api.Vector
	}{
		{"a good one", later(), rules, api.Vector{5, 3}},
		{"nothing applied", later(), rules, api.Vector{3, 1}},
		{"an old one", later(), rules, api.Vector{2, 1}},
		{"an open one", later(), rules, api.Vector{3, 3}},
		{"beyond the size", later(), rules, all(top)},
		{"what Apply refuses", bad, rules, api.Vector{5, 3}},
		{"what Value refuses", bad, rules, api.Vector{3, 1}},
		{"no rules", later(), nil, api.Vector{5, 3}},
		{"no rules, and an old one", later(), nil, api.Vector{}},
		{"nothing", api.Base{}, nil, api.Vector{}},
	} {
		for _, first := range []string{"k/1", "k/3", "k/2", "", "no key"} {
			w := base.NewView(c.b, c.rules, c.v)
			for range 3 {
				wasMade(t, c.name+", ahead", w, 0)
			}
			for _, key := range []string{first, first, "k/3", "k/1", "no key", "k/1", first} {
				want, wantErr := plainRead(c.b, c.rules, c.v, key)
				tells(t, c.name, w, key, want, wantErr)
				wasMade(t, c.name+", behind", w, 1)
			}
		}
	}
}

// P12.4: views are apart from one another.
func TestViewsAreApart(t *testing.T) {
	b, rules := later(), catalogue(0)
	early, late := base.NewView(b, rules, api.Vector{4, 1}), base.NewView(b, rules, api.Vector{5, 3})
	tells(t, "the later one", late, "k/1", api.Value{N: 115}, api.OK)
	wasMade(t, "the earlier one", early, 0)
	tells(t, "the earlier one", early, "k/1", api.Value{N: 101}, api.OK)
	tells(t, "the later one again", late, "k/1", api.Value{N: 115}, api.OK)
	wasMade(t, "the earlier one", early, 1)
	wasMade(t, "the later one", late, 1)
}

// P12.4: of two rules of one key the first one tells, and of a rule of no key's kind a view knows nothing.
func TestViewRules(t *testing.T) {
	rules := []api.Rule{{Kind: api.Ref, Key: "a", Other: "b"}, {Kind: api.Bound, Key: "b", Start: 4}, {Kind: api.Flag, Key: "b", Start: 1}, {Kind: api.Either, Key: "b", Other: "a"}, {Kind: api.Flag, Key: "", Start: 1}}
	w := base.NewView(later(), rules, api.Vector{5, 3})
	tells(t, "no key's", w, "a", api.Value{}, api.ErrRule)
	tells(t, "two", w, "b", api.Value{N: 4}, api.OK)
	tells(t, "of the empty key", w, "", api.Value{On: true}, api.OK)
	tells(t, "held, without a rule", w, "k/1", api.Value{}, api.ErrRule)
}

// P12.4: however many begin at one time, it folds once, and each is answered.
func TestManyAtOneTime(t *testing.T) {
	r := rand.New(rand.NewSource(1))
	for range 60 {
		b := someBase(r)
		rules, v := catalogue(1), someCut(r, b)
		w := base.NewView(b, rules, v)
		begin := make(chan struct{})
		var done sync.WaitGroup
		for n := range 16 {
			done.Go(func() {
				<-begin
				if m := w.Made(); m != 0 && m != 1 {
					t.Errorf("made is %d", m)
				}
				for k := range 10 {
					key := keyOf((k + n) % 10)
					want, wantErr := plainRead(b, rules, v, key)
					tells(t, "at one time", w, key, want, wantErr)
					wasMade(t, "at one time", w, 1)
				}
			})
		}
		close(begin)
		done.Wait()
		wasMade(t, "behind all", w, 1)
	}
}

// P12.4: what NewView was given may be changed, ahead of the first Value and behind it: it isn't seen. Nothing of it is changed.
func TestViewOfThen(t *testing.T) {
	r := rand.New(rand.NewSource(2))
	met := map[api.Errno]int{}
	for range 1500 {
		b, rules := someBase(r), append(someRules(r), rule(1+r.Intn(8), 1))
		v := someCut(r, b)
		var m room
		given, givenRules := m.base(b), m.rules(rules)
		w := base.NewView(given, givenRules, v)
		asGiven := func(when string) {
			t.Helper()
			if !sameBase(given, b) || !spareKept(given) || !sameRules(givenRules, rules) || behindIt(givenRules) != spareRule {
				t.Fatalf("%s changed %s to %s, %v to %v", when, shown(b), shown(given), rules, givenRules)
			}
		}
		asGiven("NewView")
		late := r.Intn(2) == 0
		if late { // it has folded ahead of the change
			w.Value("k/1")
			asGiven("Value")
		}
		m.change()
		wreck(given)
		fill(givenRules, api.Rule{Kind: 7, Key: keyOf(r.Intn(10)), Start: 1})
		for n := range 10 {
			want, wantErr := plainRead(b, rules, v, keyOf(n))
			tells(t, "of then", w, keyOf(n), want, wantErr)
			met[wantErr]++
		}
		want, wantErr := plainRead(b, rules, v, "")
		tells(t, "of then", w, "", want, wantErr)
	}
	if met[api.OK] < 1000 || len(met) < 6 {
		t.Errorf("the answers were %v", met)
	}
}

func sameRules(a, b []api.Rule) bool {
	for i, x := range a {
		if x != b[i] {
			return false
		}
	}
	return len(a) == len(b)
}

// P12.4: what a Value answered may be changed: the next one is as it was, and so is what NewView was given.
func TestAnswerMayBeChanged(t *testing.T) {
	b := api.Base{Held: []api.Held{
		{Key: "k/3", State: api.State{Kind: api.Set, Live: []api.Tag{{Seq: 1, Elem: "x"}, {Seq: 2, Elem: "y"}}}},
		{Key: "k/4", State: api.State{Kind: api.Firm, Ever: []string{"x", "y"}}},
		{Key: "k/5", State: api.State{Kind: api.Last, Has: true, Top: api.Tag{Elem: "x"}}},
		{Key: "k/6", State: api.State{Kind: api.Multi, Live: []api.Tag{{Seq: 1, Elem: "x"}, {Seq: 2, Elem: "y"}}}},
	}}
	var m room
	w := base.NewView(m.base(b), catalogue(0), api.Vector{})
	for range 3 {
		for kind, want := range map[int][]string{api.Set: {"x", "y"}, api.Firm: {"x", "y"}, api.Last: {"x"}, api.Multi: {"x", "y"}} {
			got, err := w.Value(keyOf(kind))
			again, _ := w.Value(keyOf(kind))
			if !same(got, api.Value{Elems: want}) || err != api.OK {
				t.Errorf("kind %d: %v, %v, want %v", kind, got, err, want)
			}
			for _, e := range got.Elems {
				*unsafe.StringData(e) = '!'
			}
			fill(got.Elems, "!")
			if !same(again, api.Value{Elems: want}) {
				t.Errorf("kind %d: two answers share memory: %v", kind, again)
			}
		}
	}
}

// P12.4: a view's Value is Read, whatever the base, the rules and the cut are.
func TestViewAsRead(t *testing.T) {
	r := rand.New(rand.NewSource(3))
	for range 3000 {
		b, rules := someBase(r), someRules(r)
		v := someCut(r, b)
		w := base.NewView(b, rules, v)
		for range 12 {
			key := keyOf(r.Intn(10))
			if r.Intn(10) == 0 {
				key = ""
			}
			want, wantErr := base.Read(b, rules, v, key)
			tells(t, "by chance", w, key, want, wantErr)
		}
		if t.Failed() {
			t.Fatalf("at %v of %s by %s", v, shown(b), short(rules))
		}
	}
}

// P1: no call panics, at all arguments.
func TestNoView(t *testing.T) {
	var none *base.View
	tells(t, "no view", none, "k/1", api.Value{}, api.ErrRule)
	wasMade(t, "no view", none, 0)
	var zero base.View // as one of nothing
	wasMade(t, "a view that nobody made", &zero, 0)
	tells(t, "a view that nobody made", &zero, "k/1", api.Value{}, api.ErrRule)
	wasMade(t, "a view that nobody made", &zero, 1)
}

// P12.4: a view that folded once answers soon, of a base that isn't folded soon.
func TestViewFoldsOnce(t *testing.T) {
	b := fulls(t, manyLogs())
	w := base.NewView(b, manyRules(), base.Size(b))
	if _, err := w.Value("none"); err != api.ErrRule {
		t.Errorf("a key without a rule: %v", err)
	}
	begin := time.Now()
	for range 200 {
		for n := range 64 {
			if got, err := w.Value(manyKey(n)); len(got.Elems) != 128 || err != api.OK {
				t.Fatalf("%s: %d elements, %v", manyKey(n), len(got.Elems), err)
			}
		}
	}
	if spent := time.Since(begin); spent > 10*time.Second {
		t.Errorf("12800 Values took %v", spent)
	}
}
