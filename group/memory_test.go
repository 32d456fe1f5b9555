package group_test

import (
	"math/rand"
	"slices"
	"strings"
	"testing"
	"unsafe"

	"levee/api"
	"levee/group"
)

// P17.1: what is handed in stays as it was, its spare room too, and nothing of it is kept.
func TestHandedIn(t *testing.T) {
	r := rand.New(rand.NewSource(8))
	met := 0
	for range 20000 {
		rules, first := someRules(r), someFirst(r)
		list := someEntries(r, rules, 20)
		want, wantErr := plainReplay(rules, first, list)
		var m room
		givenRules, givenList := m.rules(rules), m.texts(list)
		got, err := group.Replay(givenRules, first, givenList)
		for i, s := range givenList {
			if group.Fits(s) != plainFits(list[i]) {
				t.Fatalf("Fits(%q) is otherwise", list[i])
			}
		}
		if !slices.Equal(givenRules, rules) || !slices.Equal(givenList, list) {
			t.Fatal("what was handed in was changed")
		}
		if givenRules[:cap(givenRules)][len(givenRules)] != spareRule || givenList[:cap(givenList)][len(givenList)] != spareText {
			t.Fatal("the spare room of what was handed in was changed")
		}
		m.change()
		clear(givenRules)
		clear(givenList)
		if !same(got, want) || err != wantErr {
			t.Fatalf("behind a change of what was handed in: %s, %v; want %s, %v", short(got), err, short(want), wantErr)
		}
		met += len(got.Pools) * len(got.Grants)
	}
	if met < 20000 {
		t.Errorf("met %d", met)
	}
}

// P17.1: no two texts of an answer share any memory, and none shares any with what was handed in.
func TestNewTexts(t *testing.T) {
	rules := some(bound("b", 0, 5), bound("long/key/long/key/long/key/long/", 0, 50))
	list := texts(ask(0, "b", 1), ask(1, rules[1].Key, 2), ask(0, "b", 1), ask(0, rules[1].Key, 2))
	list = append(list, list[1]) // one text of two entries
	var all []string
	for _, r := range rules {
		all = append(all, r.Key)
	}
	all = append(all, list...)
	for range 2 {
		g, err := group.Replay(rules, 2, list)
		if err != api.OK || len(g.Grants) != 5 || len(g.Pools) != 2 {
			t.Fatalf("%+v, %v", g, err)
		}
		for _, p := range g.Pools {
			all = append(all, p.Key)
		}
		for _, x := range g.Grants {
			all = append(all, x.Key)
		}
	}
	for i, a := range all {
		for j, b := range all {
			if i != j && overlap(a, b) && (i >= len(rules)+len(list) || j >= len(rules)+len(list)) {
				t.Errorf("text %d, %q, and text %d, %q, share memory", i, a, j, b)
			}
		}
	}
}

// overlap: does one text begin within the other one's bytes?
func overlap(a, b string) bool {
	p, q := uintptr(unsafe.Pointer(unsafe.StringData(a))), uintptr(unsafe.Pointer(unsafe.StringData(b)))
	return p >= q && p < q+uintptr(len(b)) || q >= p && q < p+uintptr(len(a))
}

// P17.1: an answer is its caller's own, its spare room too.
func TestNewMemory(t *testing.T) {
	rules, list := every(), texts(join(5), ask(0, "b", 3), ask(5, "a", 1), leave(1), ask(2, "b", 4))
	want, _ := plainReplay(rules, 3, list)
	first, _ := group.Replay(rules, 3, list)
	second, _ := group.Replay(rules, 3, list)
	clear(first.Pools[:cap(first.Pools)])
	clear(first.Grants[:cap(first.Grants)])
	if !same(second, want) {
		t.Errorf("an answer was changed by another one: %+v", second)
	}
	second.Pools = append(second.Pools, pool("x", 1))
	second.Grants = append(second.Grants, grant("x", 1, 1))
	comes(t, "once more", rules, 3, list, want)
	if !slices.Equal(rules, every()) || !slices.Equal(list, texts(join(5), ask(0, "b", 3), ask(5, "a", 1), leave(1), ask(2, "b", 4))) {
		t.Error("what was handed in was changed by a change of an answer")
	}
}

// P17.1: a call hangs on its arguments alone: the same again answers the same, whatever is asked between, also at one time.
func TestAgain(t *testing.T) {
	r := rand.New(rand.NewSource(9))
	var stories []story
	var first []api.Group
	for range 500 {
		s := someStory(r, 30)
		g, _ := group.Replay(s.rules, s.first, s.entries)
		stories, first = append(stories, s), append(first, g)
	}
	done := make(chan string)
	for range 8 {
		order := r.Perm(len(stories))
		go func() {
			wrong := ""
			for _, i := range order {
				s := stories[i]
				if g, err := group.Replay(s.rules, s.first, s.entries); err != api.OK || !same(g, first[i]) {
					wrong = short(s)
				}
			}
			done <- wrong
		}()
	}
	for range 8 {
		if wrong := <-done; wrong != "" {
			t.Error("answered otherwise:", wrong)
		}
	}
}

// P17.1: anything may be handed in: each call ends, none panics, and beside an error there is nothing.
func TestAnything(t *testing.T) {
	r := rand.New(rand.NewSource(10))
	number := func() int64 {
		return one(r, 0, 1, -1, 3, 8, 1<<32+3, most, 1<<63-1, -1<<63, int64(r.Uint64()))
	}
	text := func() string {
		return one(r, "", "b", "s", "x y", "\x00\xff", "none", "join 1", "grant 0 b 1", "grant 0 b", strings.Repeat("k", 33))
	}
	met := map[api.Errno]int{}
	for range 30000 {
		var rules []api.Rule
		if r.Intn(2) == 0 {
			rules = every()
		}
		for range r.Intn(3) {
			rules = append(rules, api.Rule{Kind: one(r, int(number()), r.Intn(12)), Key: text(), Other: one(r, "", text()), Min: one(r, 0, number()), Start: one(r, 0, number())})
		}
		var list []string
		for range r.Intn(4) {
			list = append(list, one(r, text(), someEntry(r, rules)))
		}
		_, err := asTold(t, rules, one(r, int(number()), 1+r.Intn(8)), list)
		met[err]++
	}
	for _, err := range []api.Errno{api.OK, api.ErrArg, api.ErrRule, api.ErrGroup} {
		if met[err] < 500 {
			t.Errorf("%v %d times", err, met[err])
		}
	}
}

// P1: very long lists and texts are told soon.
func TestVeryLong(t *testing.T) {
	long := strings.Repeat("k", 1<<22)
	for _, s := range texts(long, "grant 0 "+long+" 1", "grant 0 b "+strings.Repeat("1", 1<<22), "none"+strings.Repeat(" ", 1<<22), "join "+strings.Repeat("0", 1<<22)) {
		refused(t, "long texts", every(), 8, slices.Repeat(texts(s), full), api.ErrGroup)
		refused(t, "a long text behind others", every(), 8, append(slices.Repeat(texts("none"), full-1), s), api.ErrGroup)
		refused(t, "long texts, too many", every(), 8, slices.Repeat(texts(s), 1<<20), api.ErrLong)
	}
	refused(t, "a long key in the rules", some(bound(long, 0, 5)), 1, nil, api.ErrRule)
	refused(t, "very many rules", slices.Repeat(every(), 1<<15), 1, nil, api.ErrFull)
}
