package fold_test

import (
	"math"
	"math/rand"
	"slices"
	"testing"

	"levee/api"
	"levee/fold"
)

// is: the state's value is this one, in all its fields.
func is(t *testing.T, name string, s api.State, want api.Value) {
	t.Helper()
	if got, err := fold.Value(s); !same(got, want) || err != api.OK {
		t.Errorf("%s: Value of %s: %v, %v; want %v", name, shown(s), got, err, want)
	}
}

func elems(l ...string) api.Value { return api.Value{Elems: l} }

// P11.1: of a Counter and a Bound the number.
func TestValueOfNumbers(t *testing.T) {
	for _, n := range starts {
		is(t, "a number", api.State{Kind: api.Counter, N: n}, api.Value{N: n})
		is(t, "a number", api.State{Kind: api.Bound, N: n}, api.Value{N: n})
	}
}

// P11.1: of a Set, an Ids and a Multi the elements of the tags, rising, each once.
func TestValueOfTags(t *testing.T) {
	for _, c := range []struct {
		name string
		live []api.Tag
		want []string
	}{
		{"none", nil, nil},
		{"none", []api.Tag{}, nil},
		{"one", tags(at(0, 1, 0, "x")), []string{"x"}},
		{"the empty text", tags(at(0, 1, 0, "")), []string{""}},
		{"one of two tags", tags(at(0, 1, 0, "x"), at(1, 1, 0, "x")), []string{"x"}},
		{"rising", tags(at(0, 1, 0, ""), at(0, 1, 1, "x"), at(0, 1, 2, "y")), []string{"", "x", "y"}},
		{"falling", tags(at(0, 1, 0, "y"), at(0, 1, 1, "x"), at(0, 1, 2, "")), []string{"", "x", "y"}},
		{"two of two tags each", tags(at(0, 1, 0, "y"), at(0, 1, 1, "x"), at(0, 1, 2, "y"), at(0, 1, 3, "x")), []string{"x", "y"}},
		{"the very same tag", tags(at(0, 1, 0, "x"), at(0, 1, 0, "x"), at(0, 1, 0, "x")), []string{"x"}},
		{"one place, two elements", tags(at(0, 1, 0, "x"), at(0, 1, 0, "w")), []string{"w", "x"}},
		{"by bytes", tags(at(0, 1, 0, "\xff"), at(0, 1, 1, "é"), at(0, 1, 2, "x"), at(0, 1, 3, "X"), at(0, 1, 4, "xx"), at(0, 1, 5, "\x00")), []string{"\x00", "X", "x", "xx", "é", "\xff"}},
		{"of tags of nothing", tags(at(-1, 0, -1, "x"), at(8, top, math.MinInt, "w")), []string{"w", "x"}},
	} {
		for _, kind := range []int{api.Set, api.Ids, api.Multi} {
			is(t, c.name, api.State{Kind: kind, Live: c.live}, elems(c.want...))
		}
	}
}

// P11.1: of a Firm key the elements that were ever added and have no tag, rising, each once.
func TestValueOfFirm(t *testing.T) {
	for _, c := range []struct {
		name string
		ever []string
		live []api.Tag
		want []string
	}{
		{"nothing", nil, nil, nil},
		{"lists of nothing", []string{}, []api.Tag{}, nil},
		{"one", []string{"x"}, nil, []string{"x"}},
		{"the empty text", []string{""}, nil, []string{""}},
		{"a tag alone", nil, tags(at(0, 1, 0, "x")), nil},
		{"one with a tag", []string{"x"}, tags(at(0, 1, 0, "x")), nil},
		{"one with two tags", []string{"x"}, tags(at(0, 1, 0, "x"), at(1, 1, 0, "x")), nil},
		{"the empty text with a tag", []string{"", "x"}, tags(at(0, 1, 0, "")), []string{"x"}},
		{"a tag of another element", []string{"x"}, tags(at(0, 1, 0, "y")), []string{"x"}},
		{"the first has a tag", []string{"a", "b", "c"}, tags(at(0, 1, 0, "a")), []string{"b", "c"}},
		{"the middle has a tag", []string{"a", "b", "c"}, tags(at(0, 1, 0, "b")), []string{"a", "c"}},
		{"the last has a tag", []string{"a", "b", "c"}, tags(at(0, 1, 0, "c")), []string{"a", "b"}},
		{"all have tags, in no order", []string{"a", "b", "c"}, tags(at(0, 1, 0, "c"), at(0, 1, 1, "a"), at(0, 1, 2, "b")), nil},
		{"a list that falls", []string{"c", "b", "a"}, tags(at(0, 1, 0, "b")), []string{"a", "c"}},
		{"a list with one twice", []string{"c", "a", "c", "a"}, nil, []string{"a", "c"}},
		{"one twice, with a tag", []string{"c", "a", "c", "a"}, tags(at(0, 1, 0, "c")), []string{"a"}},
	} {
		is(t, c.name, api.State{Kind: api.Firm, Ever: c.ever, Live: c.live}, elems(c.want...))
	}
}

// P11.1: of a Last the element of the last Write, if there was one; of a Flag whether it is on.
func TestValueOfLastAndFlag(t *testing.T) {
	is(t, "no Write", api.State{Kind: api.Last}, api.Value{})
	is(t, "no Write, though a tag is told", api.State{Kind: api.Last, Stamp: 5, Top: at(0, 1, 0, "x")}, api.Value{})
	is(t, "a Write", api.State{Kind: api.Last, Has: true, Stamp: 5, Top: at(0, 1, 0, "x")}, elems("x"))
	is(t, "a Write of the empty text", api.State{Kind: api.Last, Has: true, Stamp: 5, Top: at(0, 1, 0, "")}, elems(""))
	is(t, "a Write of no stamp and tag", api.State{Kind: api.Last, Has: true}, elems(""))
	one, two := tags(at(0, 1, 0, "")), tags(at(0, 1, 0, ""), at(1, 1, 0, "x"))
	for _, live := range [][]api.Tag{nil, {}, one, two} {
		is(t, "a Flag", api.State{Kind: api.Flag, Live: live}, api.Value{On: len(live) > 0})
		is(t, "a Flag", api.State{Kind: api.Flag, Live: live, Default: true}, api.Value{On: true})
	}
}

// P11.1: fields that a kind doesn't name tell nothing.
func TestValueOfOtherFields(t *testing.T) {
	full := api.State{N: 5, Ever: []string{"e"}, Live: tags(at(0, 1, 0, "x")), Has: true, Stamp: 3, Top: at(2, 1, 0, "top"), Default: true}
	for _, kind := range kinds {
		s := full
		s.Kind = kind
		want, _ := plainValue(plainNamed(s))
		is(t, "with all fields", s, want)
		bare := plainNamed(s)
		bare.Live, bare.Ever, bare.Has, bare.Default = nil, nil, false, false
		without, _ := plainValue(bare)
		s.Live, s.Ever, s.Has, s.Default = nil, nil, false, false
		is(t, "with all fields but lists", s, without)
	}
}

// P11.1: kinds that are none, whatever else a state holds.
func TestValueOfNoKind(t *testing.T) {
	r := rand.New(rand.NewSource(1))
	for _, kind := range wrongKinds() {
		for _, s := range []api.State{{Kind: kind}, {Kind: kind, N: 3, Default: true}, someState(r, kind), someState(r, kind)} {
			if v, err := fold.Value(s); !same(v, api.Value{}) || err != api.ErrKind {
				t.Errorf("Value of %s: %v, %v", shown(s), v, err)
			}
		}
	}
}

// P11.1: Value against the plain telling, of states with anything in them.
func TestValueAsTold(t *testing.T) {
	r := rand.New(rand.NewSource(2))
	something := map[int]int{}
	for range 4000 {
		for kind := range 10 {
			s := someState(r, kind)
			got, err := fold.Value(s)
			if want, wantErr := plainValue(s); !same(got, want) || err != wantErr {
				t.Fatalf("Value of %s: %v, %v; want %v, %v", shown(s), got, err, want, wantErr)
			}
			if !same(got, api.Value{}) {
				something[kind]++
			}
		}
	}
	for _, kind := range kinds {
		if something[kind] < 1000 {
			t.Errorf("kind %d: something %d times", kind, something[kind])
		}
	}
}

// P11.1: Value changes and keeps nothing of a state that it is handed, and answers new memory.
func TestValueHandedIn(t *testing.T) {
	r := rand.New(rand.NewSource(3))
	for range 1000 {
		for kind := range 10 {
			s := someState(r, kind)
			var m room
			given := m.state(s)
			got, _ := fold.Value(given)
			want, _ := plainValue(s)
			if !sameState(given, s) || !spareKept(given) {
				t.Fatalf("Value changed %s into %s", shown(s), shown(given))
			}
			m.change()
			wreck(given)
			if !same(got, want) {
				t.Fatalf("Value kept what it was handed: %v, want %v", got, want)
			}
			given = m.state(s)
			got, _ = fold.Value(given)
			for i := range got.Elems[:cap(got.Elems)] {
				got.Elems[:cap(got.Elems)][i] = "!"
			}
			if !sameState(given, s) || !spareKept(given) {
				t.Fatalf("an answer of Value shares memory of %s", shown(s))
			}
		}
	}
}

// P11.1: a Copy is the same state, with all of its fields, whatever its Kind, as new memory.
func TestCopy(t *testing.T) {
	r := rand.New(rand.NewSource(4))
	list := []api.State{{}, {Kind: 9}, {Kind: api.Firm, Ever: []string{}, Live: []api.Tag{}}}
	for _, kind := range slices.Concat(kinds, wrongKinds()) {
		list = append(list, beginning(kind, 5))
		for range 100 {
			list = append(list, someState(r, kind))
		}
	}
	for _, s := range list {
		var m room
		given := m.state(s)
		got, again := fold.Copy(given), fold.Copy(given)
		if !sameState(got, s) || !sameState(given, s) || !spareKept(given) {
			t.Fatalf("Copy of %s: %s, behind it %s", shown(s), shown(got), shown(given))
		}
		wreck(again)
		if !sameState(got, s) || !sameState(given, s) || !spareKept(given) {
			t.Fatalf("a Copy of %s shares memory with another one or with what it is of", shown(s))
		}
		m.change()
		wreck(given)
		given.Top = api.Tag{}
		if !sameState(got, s) {
			t.Fatalf("a Copy shares memory: %s, want %s", shown(got), shown(s))
		}
	}
}
