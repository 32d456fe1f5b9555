package cut_test

import (
	"fmt"
	"math"
	"math/rand"
	"slices"
	"testing"

	"levee/api"
	"levee/cut"
	"levee/txn"
)

// P9.1: Order goes by Stamp, then by Origin, then by Seq.
func TestOrder(t *testing.T) {
	a1, a2, a3 := at(0, 1, 3, api.Vector{}), at(0, 2, 4, api.Vector{}), at(0, 3, 9, api.Vector{})
	b1, b2 := at(1, 1, 3, api.Vector{}), at(1, 2, 8, api.Vector{})
	c1, c2 := at(7, 1, 1, api.Vector{}), at(7, 2, 3, api.Vector{})
	l := api.Logs{0: {a1, a2, a3}, 1: {b1, b2}, 7: {c1, c2}}
	checks(t, "three logs", l, api.OK)
	for _, c := range []struct {
		v    api.Vector
		want []api.Txn
	}{
		{all(top), []api.Txn{c1, a1, b1, c2, a2, b2, a3}},
		{api.Vector{3, 2, 0, 0, 0, 0, 0, 2}, []api.Txn{c1, a1, b1, c2, a2, b2, a3}},
		{all(1), []api.Txn{c1, a1, b1}},
		{all(2), []api.Txn{c1, a1, b1, c2, a2, b2}},
		{api.Vector{3}, []api.Txn{a1, a2, a3}},
		{api.Vector{0, 1, 9, 9, 9, 9, 9, 2}, []api.Txn{c1, b1, c2}},
		{api.Vector{4, 1}, []api.Txn{a1, b1, a2, a3}},
		{api.Vector{0, 0, 1, 2, top}, nil},
		{api.Vector{}, nil},
	} {
		lists(t, fmt.Sprint("Order of ", c.v), cut.Order(l, c.v), c.want)
	}
	for i := range api.MaxMembers { // one log after the other, by Origin alone
		lists(t, "one log", cut.Order(with(api.Logs{}, i, alone(i, 5)...), all(3)), alone(i, 3))
	}
	var same []api.Txn
	var logs api.Logs
	for i := range logs {
		logs[i] = []api.Txn{at(i, 1, 5, api.Vector{})}
		same = append(same, logs[i][0])
	}
	lists(t, "all of one stamp", cut.Order(logs, all(1)), same)
	slices.Reverse(logs[:])
	lists(t, "all of one stamp, in other members' logs", cut.Order(logs, all(1)), same)
}

// named: a transaction that tells these, whatever they are, and can be known by its operation.
func named(name, origin int, seq, stamp uint64) api.Txn {
	return api.Txn{Origin: origin, Seq: seq, Stamp: stamp, Ops: []api.Op{{Kind: api.Inc, Key: "a", N: int64(name)}}}
}

// P9.1: of logs that may not be those that are alike in all three stand by the log in which they are, then by place.
func TestOrderOfAlike(t *testing.T) {
	var l api.Logs
	var want []api.Txn
	for i := range l {
		for range 3 + 9*(i%2) {
			x := named(len(want), 4, 6, 7)
			l[i], want = append(l[i], x), append(want, x)
		}
	}
	lists(t, "alike", cut.Order(l, all(top)), want)
	lists(t, "alike", cut.Missing(l, all(5), 1000), want)
	lists(t, "alike", cut.Missing(l, all(5), 20), want[:20])
	lists(t, "alike", cut.Missing(l, all(6), 20), nil)
	first := named(-1, 4, 5, 7)
	l[7], want = append(l[7], first), append([]api.Txn{first}, want...)
	lists(t, "alike, and one ahead of them", cut.Order(l, all(top)), want)
}

// odd: logs of transactions with all Origins, Seqs and Stamps at which numbers may be taken wrongly, each three times, anywhere.
func odd(r *rand.Rand) api.Logs {
	var list []api.Txn
	for _, origin := range []int{math.MinInt, -1 << 32, -1, 0, 7, 8, 1 << 32, math.MaxInt} {
		for _, seq := range []uint64{0, 1, 1<<63 - 1, 1 << 63, top} {
			for _, stamp := range []uint64{0, 1, 1 << 32, 1<<63 - 1, 1 << 63, top} {
				for range 3 {
					list = append(list, named(len(list), origin, seq, stamp))
				}
			}
		}
	}
	r.Shuffle(len(list), func(i, j int) { list[i], list[j] = list[j], list[i] })
	var l api.Logs
	for _, x := range list {
		i := r.Intn(8)
		l[i] = append(l[i], x)
	}
	return l
}

// P9.1: Order and Missing of logs that may not be, with numbers of every size and sign.
func TestOrderOfOdd(t *testing.T) {
	r := rand.New(rand.NewSource(5))
	for range 4 {
		l := odd(r)
		lists(t, "odd", cut.Order(l, all(top)), plainOrder(l, all(top)))
		lists(t, "odd", cut.Order(l, all(20)), plainOrder(l, all(20)))
		for _, v := range []api.Vector{{}, all(1), all(1<<63 - 1), all(1 << 63), all(top), one(0, top), one(7, 1)} {
			for _, most := range []int{1, 7, 100, 10000} {
				lists(t, "odd", cut.Missing(l, v, most), plainMissing(l, v, most))
			}
		}
		checks(t, "odd", l, api.ErrTxn)
		if !sameLogs(cut.Copy(l), l) {
			t.Error("Copy of odd logs is another")
		}
	}
}

// P9.1: Missing at each edge of most and of the vector.
func TestMissing(t *testing.T) {
	l := grid()
	order := plainOrder(l, all(5)) // by rows: number 1 of each, number 2 of each ..
	for _, most := range []int{0, -1, -2, math.MinInt, -1 << 32, math.MinInt + 1} {
		lists(t, fmt.Sprint("most ", most), cut.Missing(l, api.Vector{}, most), nil)
	}
	for most := range 30 {
		lists(t, fmt.Sprint("most ", most), cut.Missing(l, api.Vector{}, most), order[:min(most, 25)])
	}
	for _, most := range []int{25, 26, 1 << 31, 1 << 32, math.MaxInt} {
		lists(t, fmt.Sprint("most ", most), cut.Missing(l, api.Vector{}, most), order)
	}
	for k := range 5 {
		lists(t, fmt.Sprint("without the first ", k, " of each"), cut.Missing(l, all(uint64(k)), 7), order[5*k:min(5*k+7, 25)])
	}
	for i := range 5 {
		for _, n := range []uint64{1, 4, 5, 6, 1 << 32, 1 << 63, top} {
			want := slices.DeleteFunc(slices.Clone(order), func(x api.Txn) bool { return x.Origin == i && x.Seq <= n })
			lists(t, "one member is counted", cut.Missing(l, one(i, n), 25), want)
		}
	}
	for _, v := range []api.Vector{all(5), all(6), all(top), {5, 5, 5, 5, 5}} {
		lists(t, "nothing is missing", cut.Missing(l, v, 25), nil)
	}
	lists(t, "members without logs are counted", cut.Missing(l, api.Vector{0, 0, 0, 0, 0, 9, 9, 9}, 25), order)
	lists(t, "the first cut that is not closed", cut.Missing(l, api.Vector{0, 5, 5, 5, 5}, 3), l[0][:3])
}

// P9.1: Missing goes by the Origin and the Seq that each tells, not by where it stands.
func TestMissingByWhatIsTold(t *testing.T) {
	a, b, c := named(1, 3, 1, 1), named(2, 3, 9, 2), named(3, 5, 1, 3)
	d, e, f := named(4, 8, 1, 4), named(5, -1, 1, 5), named(6, 5, 0, 6)
	l := api.Logs{0: {a, b, c, d, e, f}}
	for _, k := range []struct {
		v    api.Vector
		want []api.Txn
	}{
		{api.Vector{}, []api.Txn{a, b, c, d, e, f}},
		{one(0, top), []api.Txn{a, b, c, d, e, f}},
		{one(3, 1), []api.Txn{b, c, d, e, f}},
		{one(3, 8), []api.Txn{b, c, d, e, f}},
		{one(3, 9), []api.Txn{c, d, e, f}},
		{one(5, 1), []api.Txn{a, b, d, e, f}},
		{all(top), []api.Txn{d, e, f}},
	} {
		lists(t, fmt.Sprint("without ", k.v), cut.Missing(l, k.v, 10), k.want)
		lists(t, fmt.Sprint("two without ", k.v), cut.Missing(l, k.v, 2), k.want[:2])
	}
}

// P9.4: Join of logs of which the one is a beginning, and of such that clash.
func TestJoin(t *testing.T) {
	for i := range api.MaxMembers {
		long := with(api.Logs{}, i, alone(i, 4)...)
		for n := range 5 {
			short := with(api.Logs{}, i, alone(i, n)...)
			joins(t, "a beginning", short, long, long, api.OK)
			joins(t, "with a beginning", long, short, long, api.OK)
			j := (i + 1) % 8
			other := with(short, j, alone(j, 2)...)
			joins(t, "each has a longer one", other, long, with(long, j, alone(j, 2)...), api.OK)
			joins(t, "each has a longer one", long, other, with(long, j, alone(j, 2)...), api.OK)
		}
		for k := range 4 {
			for name, x := range others(long[i][k]) {
				unlike := changed(long, i, k, func(y *api.Txn) { *y = x })
				if plainCheck(unlike) != api.OK {
					continue
				}
				name = fmt.Sprint(name, " at ", k)
				joins(t, name, long, unlike, api.Logs{}, api.ErrClash)
				joins(t, name, unlike, long, api.Logs{}, api.ErrClash)
				short := with(unlike, i, unlike[i][:k+1]...)
				joins(t, name+", the last of the shorter one", long, short, api.Logs{}, api.ErrClash)
				joins(t, name+", the last of the shorter one", short, long, api.Logs{}, api.ErrClash)
				ahead := with(unlike, i, unlike[i][:k]...)
				joins(t, name+", behind the shorter one", ahead, unlike, unlike, api.OK)
				joins(t, name+", behind the shorter one", unlike, ahead, unlike, api.OK)
			}
		}
	}
}

// P9.4: which of Join's errors comes first: a's, b's, then a clash.
func TestJoinFirst(t *testing.T) {
	good := grid()
	clash := changed(good, 0, 0, func(x *api.Txn) { x.Ops[0].N++ })
	bad := changed(good, 4, 4, func(x *api.Txn) { x.Ops = nil })
	gap := changed(good, 0, 0, func(x *api.Txn) { x.Deps[7] = 1 })
	long := with(good, 7, alone(7, full+1)...)
	checks(t, "another first one", clash, api.OK)
	joins(t, "a clash", good, clash, api.Logs{}, api.ErrClash)
	for name, l := range map[string]api.Logs{"may not be": bad, "gap": gap, "long": long} {
		err := plainCheck(l)
		for _, other := range []api.Logs{good, clash, {}} {
			joins(t, name+", first", l, other, api.Logs{}, err)
			joins(t, name+", second", other, l, api.Logs{}, err)
		}
		for _, m := range []api.Logs{bad, gap, long} {
			joins(t, name+", and another that may not be", l, m, api.Logs{}, err)
		}
	}
}

// P9.4: what the one has doesn't make good what the other one lacks.
func TestJoinOfHalves(t *testing.T) {
	l := pairOf()
	first, second := with(l, 1), with(l, 0)
	checks(t, "the second one alone", second, api.ErrGap)
	joins(t, "two halves", first, second, api.Logs{}, api.ErrGap)
	joins(t, "two halves", second, first, api.Logs{}, api.ErrGap)
	joins(t, "the first half and the whole", first, l, l, api.OK)
}

// P9.1: Copy of any logs.
func TestCopy(t *testing.T) {
	for _, l := range []api.Logs{{}, grid(), pairOf(), with(api.Logs{}, 7, make([]api.Txn, full+1)...), ring(3), {3: {named(1, -9, 0, 0), {}}}} {
		got := cut.Copy(l)
		if !sameLogs(got, l) || cut.Size(got) != plainSize(l) {
			t.Errorf("Copy: sizes %v, want %v", cut.Size(got), plainSize(l))
		}
	}
	for i := range api.MaxMembers {
		if got := cut.Copy(with(api.Logs{}, i, alone(i, i+1)...)); !txn.SameList(got[i], alone(i, i+1)) {
			t.Errorf("Copy of member %d's log: %v", i, got)
		}
	}
}
