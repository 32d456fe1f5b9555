package group_test

import (
	"fmt"
	"slices"
	"strings"
	"testing"

	"levee/api"
)

// A catalogue with rules that may not be.
type catalogue struct {
	name  string
	rules []api.Rule
	want  api.Errno
}

// noCatalogues: such of all kinds.
func noCatalogues() []catalogue {
	var many []api.Rule
	for i := range 65 {
		many = append(many, bound(fmt.Sprint("k", i), 0, 5))
	}
	return []catalogue{
		{"more than 64 rules", many, api.ErrFull},
		{"more than 64 rules, of which none may be", slices.Repeat(some(bound("", 9, 0)), 65), api.ErrFull},
		{"Start below Min", some(bound("b", 3, 2)), api.ErrRule},
		{"Start below Min, at the end", append(every(), bound("k", 0, -1)), api.ErrRule},
		{"Min too great", some(bound("b", -most-1, 0)), api.ErrRule},
		{"Start too great", some(bound("b", 0, most+1)), api.ErrRule},
		{"two rules of one key", some(bound("b", 0, 5), bound("b", 0, 5)), api.ErrRule},
		{"two rules of one key, unlike ones", some(bound("b", 0, 5), set("b")), api.ErrRule},
		{"a key that is none", some(bound("B", 0, 5)), api.ErrRule},
		{"no key", some(bound("", 0, 5)), api.ErrRule},
		{"a key of 33 bytes", some(bound(strings.Repeat("k", 33), 0, 5)), api.ErrRule},
		{"a kind that is none", some(bound("b", 0, 5), of(0, "k")), api.ErrRule},
		{"another kind that is none", some(of(11, "k"), bound("b", 0, 5)), api.ErrRule},
		{"a field that isn't named", some(api.Rule{Kind: api.Bound, Key: "b", Other: "c", Start: 5}), api.ErrRule},
		{"a set with a Start", some(bound("b", 0, 5), api.Rule{Kind: api.Set, Key: "s", Start: 1}), api.ErrRule},
		{"a Ref of no sets", some(bound("b", 0, 5), bound("c", 0, 5), ref("b", "c")), api.ErrRule},
		{"an Either of flags that are off", some(bound("b", 0, 5), either("f", "g"), flag("f", 0), flag("g", 0)), api.ErrRule},
	}
}

// bads: texts that are no entries.
func bads() []string {
	return texts("", " ", "none ", " none", "None", "join", "join 8", "join 00", "join -1", "join  1", "leave", "leave a", "leave 1 ", "evict 9", "Evict 1", "evict\t1", "evict 1\n", "grant", "grant 0 b", "grant 0 b 0", "grant 0 b -3", "grant 0 b 03", "grant 0 B 3",
		"grant 8 b 3", "grant 0 b 1099511627777", "grant 0 b 3 ", "grant 0  b 3", "grant 0 b 3 3", "grant 0 "+strings.Repeat("k", 33)+" 3", "lamp", "\x00\xff", strings.Repeat("none ", 1000))
}

// P17.1: rules that may not be are refused by Check's error, whatever the rest is.
func TestNoCatalogues(t *testing.T) {
	for _, c := range noCatalogues() {
		for _, first := range append(below(9), strangers...) {
			refused(t, c.name, c.rules, first, nil, c.want)
			refused(t, c.name+", entries", c.rules, first, texts("none", ask(0, "b", 1)), c.want)
			refused(t, c.name+", an entry that is none", c.rules, first, texts("lamp"), c.want)
			refused(t, c.name+", too many entries", c.rules, first, slices.Repeat(texts("none"), full+1), c.want)
			refused(t, c.name+", too many that are none", c.rules, first, slices.Repeat(texts("lamp"), full+1), c.want)
		}
	}
}

// P17.1: who may be first, whatever comes behind.
func TestNoFirst(t *testing.T) {
	for _, first := range strangers {
		for _, rules := range [][]api.Rule{nil, every()} {
			refused(t, "first", rules, first, nil, api.ErrArg)
			refused(t, "first, entries", rules, first, texts(join(1), ask(0, "b", 1)), api.ErrArg)
			refused(t, "first, an entry that is none", rules, first, texts("none", "lamp"), api.ErrArg)
			refused(t, "first, too many entries", rules, first, slices.Repeat(texts("none"), full+1), api.ErrArg)
			refused(t, "first, too many that are none", rules, first, slices.Repeat(texts(""), full+1), api.ErrArg)
		}
	}
	for first := 1; first <= 8; first++ {
		comes(t, "first", nil, first, nil, api.Group{Members: numbers(below(first)...)})
	}
}

// P17.1: 256 entries are taken, one more isn't, whatever they are.
func TestTooMany(t *testing.T) {
	for _, n := range []int{full - 1, full, full + 1, full + 2, 2 * full, 1 << 16, 1<<16 + 1, 1 << 20} {
		for _, s := range texts("none", join(1), leave(0), evict(7), ask(0, "b", 1)) {
			list := slices.Repeat(texts(s), n)
			if n <= full {
				want, _ := plainReplay(every(), 1, list)
				comes(t, fmt.Sprint(n), every(), 1, list, want)
				continue
			}
			refused(t, fmt.Sprint(n), every(), 1, list, api.ErrLong)
			for _, place := range []int{0, full - 1, full, n - 1} {
				list := slices.Clone(list)
				list[place] = "lamp"
				refused(t, fmt.Sprint(n, ", of which one is none"), every(), 1, list, api.ErrLong)
			}
		}
	}
	rules := some(bound("b", 0, full))
	comes(t, "as many grants as may be", rules, 1, slices.Repeat(texts(ask(0, "b", 1)), full), api.Group{Members: numbers(0), Pools: pools(pool("b", 0)), Grants: slices.Repeat(granted(grant("b", 0, 1)), full)})
}

// P17.1: an entry that is none, as the first, the last, between others and alone, done ones and void ones.
func TestWrongEntry(t *testing.T) {
	around := [][]string{
		nil, texts("none"), texts("none", "none", "none"),
		texts(join(3), leave(0), ask(1, "b", 4), evict(2)),                           // all are done
		texts(join(0), leave(7), evict(5), ask(6, "b", 4), ask(0, "s", 1), "none"),   // all are void
		texts(ask(0, "b", 40), ask(0, "b", 40), leave(0), leave(0), join(0), "none"), // some are
		slices.Repeat(texts(join(4)), full-1),
	}
	for _, bad := range bads() {
		for _, list := range around {
			want, _ := plainReplay(every(), 3, list)
			comes(t, "without", every(), 3, list, want)
			for _, place := range []int{0, len(list) / 2, len(list)} {
				refused(t, fmt.Sprintf("%.20q at %d", bad, place), every(), 3, slices.Insert(slices.Clone(list), place, bad), api.ErrGroup)
			}
		}
		refused(t, "without rules", nil, 1, texts(bad), api.ErrGroup)
		refused(t, "all of them", every(), 8, slices.Repeat(texts(bad), full), api.ErrGroup)
	}
	refused(t, "each place", every(), 3, bads(), api.ErrGroup)
	for place := range full {
		list := slices.Repeat(texts("none"), full)
		list[place] = "join 8"
		refused(t, fmt.Sprint("at ", place), nil, 8, list, api.ErrGroup)
	}
}
