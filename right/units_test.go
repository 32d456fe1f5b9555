package right_test

import (
	"fmt"
	"math/rand"
	"slices"
	"strconv"
	"testing"

	"levee/api"
	"levee/cut"
	"levee/right"
)

// A telling is what each of the first members has of a bound, by grants and logs.
type telling struct {
	name   string
	grants []api.Grant
	l      api.Logs
	key    string
	want   []int64
}

// tell: of each telling each member has what it tells, the members behind have nothing.
func tell(t *testing.T, tales []telling) {
	t.Helper()
	for _, c := range tales {
		for member := range 8 {
			want := int64(0)
			if member < len(c.want) {
				want = c.want[member]
			}
			has(t, c.name, every(), c.grants, c.l, member, c.key, want, api.OK)
			has(t, c.name+", the Bound alone", some(bound(c.key, 0, 0)), c.grants, c.l, member, c.key, want, api.OK)
		}
	}
}

// P15.1: the chapter's example.
func TestExample(t *testing.T) {
	rules, grants := some(bound("b", 0, 5)), granted(grant("b", 0, 3))
	has(t, "a grant of 3", rules, grants, api.Logs{}, 0, "b", 3, api.OK)
	refused(t, "one more", rules, grants, api.Logs{}, 0, ops(dec("b", 4)), api.ErrRights)
	x := made(t, "all three", rules, grants, api.Logs{}, 0, ops(dec("b", 3)))
	makes(t, "all three", rules, grants, api.Logs{}, 0, ops(dec("b", 3)), api.Txn{Origin: 0, Seq: 1, Stamp: 1, Ops: ops(dec("b", 3))}, api.OK)
	l := api.Logs{{x}}
	has(t, "behind it", rules, grants, l, 0, "b", 0, api.OK)
	slack(t, "behind it", rules, l, api.Vector{1}, "b", 2, api.OK)
	slack(t, "ahead of it", rules, l, api.Vector{}, "b", 5, api.OK)
}

// P15.1: of grants those of the key and to the member count, each of them.
func TestGranted(t *testing.T) {
	tell(t, []telling{
		{"nothing at all", nil, api.Logs{}, "b", nil},
		{"nothing at all", granted(), api.Logs{}, "b", nil},
		{"one grant", granted(grant("b", 0, 3)), api.Logs{}, "b", []int64{3}},
		{"the least grant", granted(grant("b", 0, 1)), api.Logs{}, "b", []int64{1}},
		{"the greatest grant", granted(grant("b", 0, most)), api.Logs{}, "b", []int64{most}},
		{"to one member twice", granted(grant("b", 1, 3), grant("b", 1, 4)), api.Logs{}, "b", []int64{0, 7}},
		{"to one member twice the same", granted(grant("b", 1, 3), grant("b", 1, 3)), api.Logs{}, "b", []int64{0, 6}},
		{"to one member, others between", granted(grant("b", 1, 3), grant("b", 0, 10), grant("d", 1, 100), grant("b", 1, 4)), api.Logs{}, "b", []int64{10, 7}},
		{"to all", granted(grant("b", 7, 8), grant("b", 6, 7), grant("b", 5, 6), grant("b", 4, 5), grant("b", 3, 4), grant("b", 2, 3), grant("b", 1, 2), grant("b", 0, 1)), api.Logs{}, "b", []int64{1, 2, 3, 4, 5, 6, 7, 8}},
		{"of another bound", granted(grant("d", 0, 3)), api.Logs{}, "b", nil},
		{"of keys that are no bounds, or have no rule", granted(grant("c", 0, 3), grant("i", 0, 3), grant("nobody", 0, 3), grant("bb", 0, 3), grant("b/", 0, 3)), api.Logs{}, "b", nil},
		{"more than there is", granted(grant("b", 0, most), grant("b", 1, most), grant("b", 0, 1)), api.Logs{}, "b", []int64{most + 1, most}},
	})
	many := slices.Repeat(granted(grant("b", 3, most)), 256)
	has(t, "256 of the greatest", every(), many, api.Logs{}, 3, "b", 256*most, api.OK)
	has(t, "256 of the greatest", every(), many, api.Logs{}, 2, "b", 0, api.OK)
}

// P15.1: Incs, Decs and Gives of the member, and Gives to it, on that key, count; nothing else does.
func TestOperations(t *testing.T) {
	grants := granted(grant("b", 0, 10), grant("b", 2, 20))
	mixed := story(
		by(0, inc("b", 5), dec("b", 1), give("b", "2", 3), inc("d", 100), dec("d", 7), inc("c", 1000)),
		by(2, give("b", "0", 1), give("b", "1", 2), give("d", "0", 50), dec("b", 4)),
		by(1, give("b", "0", 6), inc("b", 9), give("b", "2", 1)).seeing(1, 0, 1),
	)
	tell(t, []telling{
		{"an Inc", grants, story(by(0, inc("b", 5))), "b", []int64{15, 0, 20}},
		{"a Dec", grants, story(by(0, dec("b", 5))), "b", []int64{5, 0, 20}},
		{"a Give", grants, story(by(0, give("b", "1", 5))), "b", []int64{5, 5, 20}},
		{"a Give to one with units", grants, story(by(0, give("b", "2", 5))), "b", []int64{5, 0, 25}},
		{"a Give of one without units", grants, story(by(1, give("b", "2", 5))), "b", []int64{10, -5, 25}},
		{"a Give to the last member", grants, story(by(0, give("b", "7", 5))), "b", []int64{5, 0, 20, 0, 0, 0, 0, 5}},
		{"a Give of the last member", grants, story(by(7, give("b", "0", 5))), "b", []int64{15, 0, 20, 0, 0, 0, 0, -5}},
		{"a Give there and one back", grants, story(by(0, give("b", "1", 5)), by(1, give("b", "0", 5)).seeing(1)), "b", []int64{10, 0, 20}},
		{"several in one transaction", grants, story(by(0, dec("b", 1), dec("b", 1), inc("b", 7), give("b", "1", 2), give("b", "1", 2))), "b", []int64{11, 4, 20}},
		{"several transactions", grants, story(by(0, dec("b", 1)), by(0, dec("b", 2)), by(0, inc("b", 30))), "b", []int64{37, 0, 20}},
		{"on another bound", grants, story(by(0, inc("d", 1), dec("d", 2), give("d", "2", 3))), "b", []int64{10, 0, 20}},
		{"on another bound, of that one", grants, story(by(0, inc("d", 1), dec("d", 2), give("d", "2", 3))), "d", []int64{-4, 0, 3}},
		{"on keys that begin alike", grants, story(by(0, inc("bb", 1), dec("b/", 2), give("bound", "2", 3))), "b", []int64{10, 0, 20}},
		{"on no bounds", grants, story(by(0, inc("c", 1), dec("c", 2), add("s", "b"), write("l", "b"), on("f"))), "b", []int64{10, 0, 20}},
		{"that don't fit a bound", grants, story(by(0, add("b", "0"), add("b", "x"), remove("b", "0"), write("b", "2"), on("b"), off("b"))), "b", []int64{10, 0, 20}},
		{"all kinds", grants, mixed, "b", []int64{10 + 5 - 1 - 3 + 1 + 6, 2 - 6 + 9 - 1, 20 + 3 - 1 - 2 - 4 + 1}},
		{"all kinds, of the other bound", grants, mixed, "d", []int64{100 - 7 + 50, 0, -50}},
		{"all kinds, without grants", nil, mixed, "b", []int64{8, 4, -3}},
	})
}

// P15.1: all of the logs count, whatever depends on what, and sums below nothing are told.
func TestAllLogs(t *testing.T) {
	l := story(by(3, inc("b", 4)), by(4, give("b", "3", 2)), by(5, dec("b", 1)), by(3, dec("b", 100)), by(4, inc("b", 1)).seeing(0, 0, 0, 1, 0, 1))
	has(t, "below nothing", every(), nil, l, 3, "b", -94, api.OK)
	has(t, "below nothing", every(), nil, l, 4, "b", -1, api.OK)
	has(t, "below nothing", every(), nil, l, 5, "b", -1, api.OK)
	has(t, "nothing", every(), granted(grant("b", 3, 94)), l, 3, "b", 0, api.OK)
	var far, up api.Logs
	for i := range far {
		far[i] = alone(i, full, slices.Repeat(ops(give("b", strconv.Itoa((i+1)%8), most)), 8)...)
		up[i] = alone(i, full, slices.Repeat(ops(inc("b", most)), 8)...)
	}
	down := api.Logs{alone(0, full, slices.Repeat(ops(dec("b", most)), 8)...)}
	for member := range 8 {
		has(t, "full logs of Gives round about", every(), granted(grant("b", member, 3)), far, member, "b", 3, api.OK)
		has(t, "full logs of Incs", every(), nil, up, member, "b", 8*full*most, api.OK)
	}
	has(t, "a full log of Decs", every(), nil, down, 0, "b", -8*full*most, api.OK)
	has(t, "a full log of Decs", every(), nil, down, 1, "b", 0, api.OK)
	far[3] = nil
	has(t, "full logs of Gives but one", every(), nil, far, 4, "b", -8*full*most, api.OK)
	has(t, "full logs of Gives but one", every(), nil, far, 3, "b", 8*full*most, api.OK)
	has(t, "full logs of Gives but one", every(), nil, far, 5, "b", 0, api.OK)
}

// P15.1: the rule's Min and Start don't count.
func TestMinAndStart(t *testing.T) {
	l := story(by(0, dec("b", 2)))
	for _, r := range some(bound("b", 0, 0), bound("b", 0, 5), bound("b", 5, 5), bound("b", -most, most), bound("b", -7, -7)) {
		has(t, fmt.Sprint("from ", r.Start), some(r), granted(grant("b", 0, 9)), l, 0, "b", 7, api.OK)
	}
}

// P15.1: Units against the plain telling.
func TestUnitsAsTold(t *testing.T) {
	r := rand.New(rand.NewSource(1))
	met, above, below := map[api.Errno]int{}, 0, 0
	for range 4000 {
		members := 1 + r.Intn(8)
		l, grants := someLogs(r, members, r.Intn(16)), someGrants(r, members)
		for range 6 {
			member, key := one(r, r.Intn(8), r.Intn(members), r.Intn(members), -1, 8), one(r, "b", "b", "b", "d", "d", "c", "i", "nobody", "s", "")
			want, err := plainUnits(every(), grants, l, member, key)
			has(t, "by chance", every(), grants, l, member, key, want, err)
			met[err]++
			if want > 0 {
				above++
			}
			if want < 0 {
				below++
			}
		}
		if t.Failed() {
			t.Fatalf("of %+v", l)
		}
	}
	if min(above, below, met[api.ErrRule], met[api.ErrKind], met[api.ErrArg]) < 1000 {
		t.Errorf("%d above nothing, %d below; met %v", above, below, met)
	}
}

// P15.1: Slack is Start less Min, with Incs and without Decs, of whomever, at the cut; Gives don't count.
func TestSlack(t *testing.T) {
	l := story(by(0, inc("b", 5), dec("b", 1), give("b", "1", 1000), inc("d", 77)), by(1, dec("b", 30), give("b", "0", 1)).seeing(1), by(0, give("b", "2", 9), inc("bb", 4), dec("c", 4), dec("d", 70)), by(2, dec("b", 300)).seeing(0, 1))
	for _, c := range []struct {
		v    api.Vector
		b, d int64
	}{
		{api.Vector{}, 0, 0}, {api.Vector{1}, 4, 77}, {api.Vector{2}, 4, 7}, {api.Vector{1, 1}, -26, 77}, {api.Vector{2, 1}, -26, 7}, {api.Vector{1, 1, 1}, -326, 77}, {api.Vector{2, 1, 1}, -326, 7},
	} {
		slack(t, "at a cut", every(), l, c.v, "b", 47+c.b, api.OK)
		slack(t, "at a cut, of the other bound", every(), l, c.v, "d", 2*most+c.d, api.OK)
		for _, r := range some(bound("b", 0, 0), bound("b", -5, -5), bound("b", 0, 1), bound("b", 2, 9), bound("b", -9, -2), bound("b", -9, 9), bound("b", -most, most), bound("b", most, most)) {
			slack(t, "at a cut", some(r), l, c.v, "b", r.Start-r.Min+c.b, api.OK)
		}
	}
	for _, v := range []api.Vector{{0, 1}, {3}, {2, 2}, {2, 1, 2}, {0, 0, 0, 1}, {7: 1}, all(top), {1 << 32}, {1<<32 + 1}, {1 << 63}} {
		slack(t, "no closed cut", every(), l, v, "b", 0, api.ErrOpen)
		slack(t, "no cut of nothing", every(), api.Logs{}, v, "b", 0, api.ErrOpen)
	}
}

// P15.1: Slack at the ends of full logs.
func TestSlackFull(t *testing.T) {
	var down, up api.Logs
	for i := range down {
		down[i] = alone(i, full, slices.Repeat(ops(dec("b", most)), 8)...)
		up[i] = alone(i, full, slices.Repeat(ops(inc("b", most)), 8)...)
	}
	slack(t, "as far down as it goes", some(bound("b", most, most)), down, all(full), "b", -64*full*most, api.OK)
	slack(t, "as far up as it goes", some(bound("b", -most, most)), up, all(full), "b", 64*full*most+2*most, api.OK)
	slack(t, "as far up as it goes, at the beginning", some(bound("b", -most, most)), up, api.Vector{}, "b", 2*most, api.OK)
	slack(t, "beyond", some(bound("b", -most, most)), up, all(full+1), "b", 0, api.ErrOpen)
}

// P15.1: Slack against the plain telling, at closed cuts and at open ones.
func TestSlackAsTold(t *testing.T) {
	r := rand.New(rand.NewSource(2))
	met := map[api.Errno]int{}
	for range 3000 {
		l := someLogs(r, 1+r.Intn(8), r.Intn(16))
		v := cut.Size(l)
		for range 6 {
			for i := range v {
				v[i] = uint64(r.Intn(len(l[i]) + 1))
			}
			key := one(r, "b", "b", "b", "d", "d", "c", "i", "nobody")
			for _, v := range []api.Vector{v, cut.Close(l, v)} {
				want, err := plainSlack(every(), l, v, key)
				slack(t, "by chance", every(), l, v, key, want, err)
				met[err]++
			}
		}
		if t.Failed() {
			t.Fatalf("of %+v", l)
		}
	}
	if min(met[api.OK], met[api.ErrRule], met[api.ErrKind], met[api.ErrOpen]) < 1000 {
		t.Errorf("met %v", met)
	}
}

// P15.1: Slack asks for no grants and no member: it answers where Units and Make refuse these.
func TestSlackAlone(t *testing.T) {
	l := story(by(0, dec("b", 2)))
	bad := granted(grant("", 9, 0))
	if n, err := right.Units(every(), bad, l, 9, "b"); n != 0 || err != api.ErrArg {
		t.Errorf("Units: %d, %v", n, err)
	}
	slack(t, "whatever was granted", every(), l, api.Vector{1}, "b", 45, api.OK)
}
