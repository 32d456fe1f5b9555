package cast_test

import (
	"fmt"
	"slices"
	"testing"

	"levee/api"
	"levee/cast"
	"levee/cut"
)

// P13.1: the chapter's example.
func TestExamples(t *testing.T) {
	first := at(0, 1, 1, api.Vector{})
	second := at(1, 1, 2, api.Vector{1})
	in, n, err := cast.Receive(api.Inbox{}, second)
	if !same(in, of(api.Logs{}, second)) || n != 0 || err != api.OK {
		t.Errorf("the second one: %s, %d, %v", shown(in), n, err)
	}
	in, n, err = cast.Receive(in, first)
	if !same(in, of(api.Logs{{first}, {second}})) || n != 2 || err != api.OK {
		t.Errorf("then the first one: %s, %d, %v", shown(in), n, err)
	}
}

// P13.1: one that can be added at once, behind each log, with nothing waiting and with some that wait on.
func TestAtOnce(t *testing.T) {
	var l api.Logs
	for i := range l {
		l[i] = alone(i, i)
	}
	others := []api.Txn{early(0, 9), early(2, 12), early(5, 30), early(5, 31), early(6, 9)}
	for i := range api.MaxMembers {
		x := at(i, uint64(i+1), 50, api.Vector{0, 1, 2, 3})
		x.Deps[i] = uint64(i)
		want := l
		want[i] = append(slices.Clone(l[i]), x)
		receives(t, "behind a log", of(l), x, of(want))
		receives(t, "behind a log, some wait on", of(l, others[:1]...), x, of(want, others[:1]...))
		receives(t, "behind a log, nothing waits", of(l, []api.Txn{}...), x, of(want))
		first := at(i, 1, 1, api.Vector{})
		var alone api.Logs
		alone[i] = []api.Txn{first}
		receives(t, "to nothing", api.Inbox{}, first, of(alone))
		if i != 7 {
			receives(t, "to nothing, some wait on", of(api.Logs{}, others...), first, of(alone, others...))
		}
	}
}

// P13.1: one that lets in one, at each place among those that wait on.
func TestLetsInOne(t *testing.T) {
	x := at(2, 1, 1, api.Vector{})
	for _, y := range []api.Txn{next(x), at(0, 1, 2, one(2, 1)), at(7, 1, 2, one(2, 1))} {
		var l api.Logs
		l[2] = []api.Txn{x}
		l[y.Origin] = append(l[y.Origin], y)
		for n := range 6 {
			on := waiting(n)
			for i := range on {
				on[i].Deps[6] = 1 // they wait for yet another one
			}
			for place := range n + 1 {
				in := of(api.Logs{}, slices.Insert(slices.Clone(on), place, y)...)
				receives(t, fmt.Sprintf("%d wait on, place %d", n, place), in, x, of(l, on...))
				answers(t, fmt.Sprintf("%d wait on, place %d: the number", n, place), in, x, of(l, on...), 2, api.OK)
			}
		}
	}
}

// P13.1: one that lets in several, each by itself; those among them that wait for more wait on.
func TestLetsInSeveral(t *testing.T) {
	x := at(3, 1, 1, api.Vector{})
	l := api.Logs{3: {x}}
	var wait, on []api.Txn
	for i := range api.MaxMembers {
		if i == 3 {
			continue
		}
		y, z := at(i, 1, 2, one(3, 1)), at(i, 3, 9, one(3, 1))
		l[i] = []api.Txn{y}
		wait, on = append(wait, y, z), append(on, z)
	}
	answers(t, "several", of(api.Logs{}, wait...), x, of(l, on...), 8, api.OK)
	slices.Reverse(wait)
	slices.Reverse(on)
	answers(t, "several, changed about", of(api.Logs{}, wait...), x, of(l, on...), 8, api.OK)
}

// chain: n transactions, each of which depends on the one ahead alone, or on its own log too, by turns of these members.
func chain(n int, members ...int) (l api.Logs, all []api.Txn) {
	var deps api.Vector
	for k := range n {
		i := members[k%len(members)]
		x := at(i, uint64(len(l[i])+1), uint64(k+1), deps)
		l[i] = append(l[i], x)
		all = append(all, x)
		deps = one(i, x.Seq)
	}
	return l, all
}

// P13.1: a chain in which each lets in the next one, whichever way it stands.
func TestChain(t *testing.T) {
	stays := early(4, 99)
	stays.Deps[6] = 500
	for _, members := range [][]int{{0}, {5}, {0, 1}, {1, 0}, {0, 1, 2, 3, 4, 5, 6, 7}, {7, 6, 5, 4, 3, 2, 1, 0}, {3, 6, 0, 7, 1}} {
		for _, n := range []int{2, 3, 8, 24, most + 1, 90} {
			l, all := chain(n, members...)
			wait := all[1:]
			name := fmt.Sprintf("a chain of %d of %v", n, members)
			answers(t, name, of(api.Logs{}, wait...), all[0], of(l), n, api.OK)
			back := slices.Clone(wait)
			slices.Reverse(back)
			answers(t, name+", backwards", of(api.Logs{}, back...), all[0], of(l), n, api.OK)
			answers(t, name+", one stays", of(api.Logs{}, append(back, stays)...), all[0], of(l, stays), n, api.OK)
			rising := slices.Clone(wait)
			slices.SortFunc(rising, byNumber)
			answers(t, name+", as Wait stands", of(api.Logs{}, rising...), all[0], of(l), n, api.OK)
			answers(t, name+", one stays ahead", of(api.Logs{}, append([]api.Txn{stays}, rising...)...), all[0], of(l, stays), n, api.OK)
		}
	}
}

func byNumber(a, b api.Txn) int {
	if a.Origin == b.Origin {
		return int(a.Seq) - int(b.Seq)
	}
	return a.Origin - b.Origin
}

// P13.1: behind each one that is delivered it goes on from the beginning of Wait: of two unlike ones of one number the first one is taken.
func TestFromTheBeginning(t *testing.T) {
	x := at(0, 1, 1, api.Vector{})
	key := at(3, 1, 2, one(0, 1))       // x lets it in
	held := at(2, 1, 3, one(3, 1))      // key lets it in
	other := at(2, 1, 3, one(0, 1))     // x lets it in, too
	third := at(5, 1, 4, api.Vector{1}) // x lets it in
	logs := func(y api.Txn) api.Logs { return api.Logs{0: {x}, 2: {y}, 3: {key}} }
	for _, k := range []struct {
		name string
		wait []api.Txn
		want api.Txn
	}{
		{"the one behind would be next", []api.Txn{held, key, other}, held},
		{"the one that may stands ahead", []api.Txn{other, key, held}, other},
		{"the one that may stands ahead of both", []api.Txn{other, held, key}, other},
		{"both ahead", []api.Txn{held, other, key}, other},
		{"both behind", []api.Txn{key, held, other}, held},
		{"both behind, the other way round", []api.Txn{key, other, held}, other},
	} {
		answers(t, k.name, of(api.Logs{}, k.wait...), x, of(logs(k.want)), 3, api.OK)
		want := logs(k.want)
		want[5] = []api.Txn{third}
		answers(t, k.name+", one more behind", of(api.Logs{}, append(slices.Clone(k.wait), third)...), x, of(want), 4, api.OK)
		answers(t, k.name+", one that is let go behind", of(api.Logs{}, append(slices.Clone(k.wait), unlike(x))...), x, of(logs(k.want)), 3, api.OK)
		between := append(slices.Clone(k.wait[:2]), unlike(x), k.wait[2])
		answers(t, k.name+", one that is let go between", of(api.Logs{}, between...), x, of(logs(k.want)), 3, api.OK)
	}
}

// P13.1: one that is in Logs already: the very same one changes nothing of them, and what may come in comes in; another one is a clash.
func TestThere(t *testing.T) {
	l, all := chain(12, 0, 3, 6)
	on := []api.Txn{early(1, 3), early(4, 1)}
	ready := at(5, 1, 99, api.Vector{4, 0, 0, 4})
	for _, x := range all {
		receives(t, "the very same one", of(l), x, of(l))
		answers(t, "the very same one, some wait on", of(l, on...), x, of(l, on...), 0, api.OK)
		want := l
		want[5] = []api.Txn{ready}
		answers(t, "the very same one, one that waits may come in", of(l, on[0], on[1], ready), x, of(want, on...), 1, api.OK)
		answers(t, "the very same one, of which some wait", of(l, x, on[0], x, unlike(x), on[1], x), x, of(l, on...), 0, api.OK)
		for name, y := range others(x) {
			refuses(t, "another one: "+name, of(l), y, api.ErrClash)
			refuses(t, "another one, some wait: "+name, of(l, on[0], y, ready), y, api.ErrClash)
			refuses(t, "another one, as many wait as may: "+name, of(l, waiting(most)...), y, api.ErrClash)
		}
	}
}

// others: transactions that may be, of the same Origin and Seq, each with one thing changed.
func others(x api.Txn) map[string]api.Txn {
	l := map[string]api.Txn{
		"Stamp":          with(x, func(x *api.Txn) { x.Stamp++ }),
		"the last Stamp": with(x, func(x *api.Txn) { x.Stamp = top }),
		"Kind":           with(x, func(x *api.Txn) { x.Ops[0].Kind = api.Dec }),
		"Key":            with(x, func(x *api.Txn) { x.Ops[1].Key = "s/2" }),
		"Elem":           with(x, func(x *api.Txn) { x.Ops[1].Elem = "y" }),
		"N":              with(x, func(x *api.Txn) { x.Ops[0].N++ }),
		"one more":       unlike(x),
		"one less":       with(x, func(x *api.Txn) { x.Ops = x.Ops[:1] }),
		"changed about":  with(x, func(x *api.Txn) { x.Ops[0], x.Ops[1] = x.Ops[1], x.Ops[0] }),
	}
	for i := range x.Deps {
		if i != x.Origin {
			l[fmt.Sprint("Deps ", i)] = with(x, func(x *api.Txn) { x.Deps[i]++ })
		}
	}
	return l
}

// P13.1: what waits though it may come in, is there, or is refused, waits till something is delivered: not while another one waits or is refused.
func TestNotEarlier(t *testing.T) {
	l, all := chain(6, 0, 3)
	ready := at(5, 1, 99, one(3, 3))
	wait := []api.Txn{all[0], unlike(all[1]), {}, ready, early(6, 4)}
	receives(t, "one that has to wait", of(l, wait...), early(6, 5), of(l, append(slices.Clone(wait), early(6, 5))...))
	receives(t, "the very same one that has to wait", of(l, ready, early(6, 4)), early(6, 4), of(l, ready, early(6, 4)))
	refuses(t, "another one that has to wait", of(l, ready, early(6, 4)), unlike(early(6, 4)), api.ErrClash)
	refuses(t, "another one of what is there", of(l, wait...), unlike(all[2]), api.ErrClash)
	refuses(t, "one that may not be", of(l, wait...), api.Txn{}, api.ErrTxn)
	refuses(t, "one with an early stamp", of(l, wait...), at(1, 1, 1, one(0, 1)), api.ErrTxn)
	want := l
	want[5] = []api.Txn{ready}
	answers(t, "one that is there", of(l, wait...), all[5], of(want, early(6, 4)), 1, api.OK)
	want[7] = []api.Txn{at(7, 1, 1, api.Vector{})}
	answers(t, "one that comes", of(l, wait...), want[7][0], of(want, early(6, 4)), 2, api.OK)
}

// P13.1: what waits and is refused is let go, wherever it stands, and doesn't count; what waits for more stays.
func TestLetGo(t *testing.T) {
	x := at(0, 1, 10, api.Vector{})
	y := at(4, 1, 20, one(0, 1)) // x lets it in
	on := early(6, 4)
	lost := map[string]api.Txn{
		"nothing":                          {},
		"no operations":                    with(on, func(x *api.Txn) { x.Ops = nil }),
		"an Origin that is none":           with(on, func(x *api.Txn) { x.Origin = -1 }),
		"an Origin that is none, above":    with(on, func(x *api.Txn) { x.Origin = 8 }),
		"number 0":                         with(on, func(x *api.Txn) { x.Seq = 0 }),
		"it may not be, and would wait":    with(on, func(x *api.Txn) { x.Ops[0].N = 0 }),
		"the one that came":                x,
		"another one of the one that came": unlike(x),
		"one that Logs had":                at(3, 1, 1, api.Vector{}),
		"another one of what Logs had":     at(3, 1, 2, api.Vector{}),
		"another one, which would wait":    at(3, 1, 2, one(7, 9)),
		"the same stamp":                   at(5, 1, 10, one(0, 1)),
		"an earlier stamp":                 at(5, 1, 9, one(0, 1)),
		"the next one, with an old stamp":  at(0, 2, 10, api.Vector{}),
	}
	had := at(3, 1, 1, api.Vector{})
	want := api.Logs{0: {x}, 3: {had}, 4: {y}}
	for name, gone := range lost {
		if _, n, err := plainReceive(of(api.Logs{0: {x}, 3: {had}}, gone), x); n != 0 || err != api.OK {
			t.Fatalf("%s: %d, %v", name, n, err)
		}
		for place := range 3 {
			wait := slices.Insert([]api.Txn{on, y}, place, gone)
			answers(t, fmt.Sprint(name, " at place ", place), of(api.Logs{3: {had}}, wait...), x, of(want, on), 2, api.OK)
			wait = slices.Insert([]api.Txn{y, on}, place, gone)
			answers(t, fmt.Sprint(name, " at place ", place, " of the others"), of(api.Logs{3: {had}}, wait...), x, of(want, on), 2, api.OK)
		}
		answers(t, name+", alone", of(api.Logs{3: {had}}, gone), x, of(api.Logs{0: {x}, 3: {had}}), 1, api.OK)
		answers(t, name+", often", of(api.Logs{3: {had}}, gone, gone, y, gone, gone, on, gone, gone), x, of(want, on), 2, api.OK)
	}
	var all []api.Txn
	for _, gone := range lost {
		all = append(all, gone, on)
	}
	ons := slices.Repeat([]api.Txn{on}, len(lost))
	answers(t, "all of them", of(api.Logs{3: {had}}, append(all, y)...), x, of(want, ons...), 2, api.OK)
}

// P13.1: what would come behind a log that is full is let go once nothing is missing any more, and waits till then.
func TestLetGoOfFull(t *testing.T) {
	log := alone(2, full+2)
	there, last, over, far := log[:full-1], log[full-1], log[full], log[full+1]
	before, whole := api.Logs{2: there}, api.Logs{2: log[:full]}
	receives(t, "the first one beyond", of(before), over, of(before, over))
	answers(t, "the last one that has room", of(before, over, far), last, of(whole, far), 1, api.OK)
	answers(t, "the last one that has room, changed about", of(before, far, over), last, of(whole, far), 1, api.OK)
	y := at(4, 1, full+9, one(2, full))
	answers(t, "it lets in another one", of(before, y, over), last, of(api.Logs{2: log[:full], 4: {y}}), 2, api.OK)
	answers(t, "it lets in another one, behind", of(before, over, y), last, of(api.Logs{2: log[:full], 4: {y}}), 2, api.OK)
	refuses(t, "behind a full log", of(whole), over, api.ErrFull)
	refuses(t, "behind a full log, some wait", of(whole, y, far), over, api.ErrFull)
	receives(t, "far behind a full log", of(whole, y), far, of(whole, far, y))
}

// P13.1: what waits is held against the logs as they are when nothing is missing any more: by their stamps it may come in or is let go.
func TestStamps(t *testing.T) {
	x := at(0, 1, 1, api.Vector{})
	mid := at(1, 1, 2, one(0, 1))
	late := at(2, 1, 50, one(0, 1))
	end := at(3, 1, 50, api.Vector{0, 1, 1})  // not behind late's stamp
	good := at(4, 1, 51, api.Vector{0, 1, 1}) // just behind it
	wait := []api.Txn{end, good, mid, late}
	want := api.Logs{0: {x}, 1: {mid}, 2: {late}, 4: {good}}
	answers(t, "stamps", of(api.Logs{}, wait...), x, of(want), 4, api.OK)
	for range wait {
		wait = append(wait[1:], wait[0])
		answers(t, "stamps", of(api.Logs{}, wait...), x, of(want), 4, api.OK)
	}
	if err := cut.Check(want); err != api.OK {
		t.Error("Check:", err)
	}
}
