package cast_test

import (
	"fmt"
	"math"
	"slices"
	"testing"

	"levee/api"
)

// holds: the transaction waits at this place.
func holds(t *testing.T, name string, in api.Inbox, x api.Txn, place int) {
	t.Helper()
	answers(t, name, in, x, of(in.Logs, slices.Insert(slices.Clone(in.Wait), place, x)...), 0, api.OK)
}

// stays: the very same transaction waits, and nothing changes.
func stays(t *testing.T, name string, in api.Inbox, x api.Txn) {
	t.Helper()
	answers(t, name, in, x, in, 0, api.OK)
}

// P13.1: one that has to wait stands by Origin, then by Seq: at the first, at a middle, at the last place.
func TestPlace(t *testing.T) {
	a, b, c, d := early(1, 4), early(3, 2), early(3, 7), early(5, 4)
	in := of(api.Logs{6: alone(6, 3)}, a, b, c, d)
	for _, k := range []struct {
		origin, seq, place int
	}{
		{0, 1, 0}, {0, 4, 0}, {0, 99, 0}, {1, 1, 0}, {1, 3, 0},
		{1, 5, 1}, {1, 99, 1}, {2, 1, 1}, {2, 4, 1}, {2, 99, 1}, {3, 1, 1},
		{3, 3, 2}, {3, 5, 2}, {3, 6, 2},
		{3, 8, 3}, {3, 99, 3}, {4, 1, 3}, {4, 99, 3}, {5, 1, 3}, {5, 3, 3},
		{5, 5, 4}, {5, 99, 4}, {6, 4, 4}, {6, 99, 4}, {7, 2, 4}, {7, 99, 4},
	} {
		name := fmt.Sprintf("%d.%d", k.origin, k.seq)
		holds(t, name, in, early(k.origin, uint64(k.seq)), k.place)
		holds(t, name+" to nothing that waits", of(in.Logs), early(k.origin, uint64(k.seq)), 0)
		holds(t, name+" to nothing", api.Inbox{}, early(k.origin, uint64(k.seq)), 0)
	}
	for i, x := range in.Wait {
		stays(t, "the very same one", in, x)
		less, more := of(in.Logs, slices.Delete(slices.Clone(in.Wait), i, i+1)...), of(in.Logs, in.Wait[:i]...)
		holds(t, "one taken out", less, x, i)
		holds(t, "the last one of some", more, x, i)
	}
}

// P13.1: numbers are told apart by all their bits, and Seq has no sign.
func TestGreatNumbers(t *testing.T) {
	seqs := []uint64{2, 3, 255, 256, 1 << 31, 1<<32 - 1, 1 << 32, 1<<32 + 2, 1<<63 - 1, 1 << 63, 1<<63 + 2, top - 1, top}
	far := func(origin int, seq uint64) api.Txn { return at(origin, seq, 9, api.Vector{}) } // it waits for its own ahead
	var in api.Inbox
	for _, origin := range []int{2, 3} {
		for _, seq := range seqs {
			in.Wait = append(in.Wait, far(origin, seq))
		}
	}
	for i, x := range in.Wait {
		stays(t, "the very same one", in, x)
		refuses(t, "another one", in, unlike(x), api.ErrClash)
		holds(t, "one taken out", of(in.Logs, slices.Delete(slices.Clone(in.Wait), i, i+1)...), x, i)
	}
	for i, seq := range seqs {
		holds(t, "the next member", of(in.Logs, in.Wait[:len(seqs)]...), far(3, seq), len(seqs))
		holds(t, "the member ahead", of(in.Logs, in.Wait[:len(seqs)]...), far(1, seq), 0)
		holds(t, "by what it waits for", api.Inbox{}, at(0, 1, 1, api.Vector{0, seqs[i]}), 0)
	}
}

// P13.1: one waits by each member that it depends on, by its own log too, by one transaction too few as by many.
func TestWhatIsMissing(t *testing.T) {
	var l api.Logs
	for i := range l {
		l[i] = alone(i, i)
	}
	for origin := range l {
		own := uint64(origin)
		holds(t, "its own log", of(l), at(origin, own+2, 99, api.Vector{}), 0)
		holds(t, "its own log, by many", of(l), at(origin, own+200, 99, api.Vector{}), 0)
		for j := range l {
			if j == origin {
				continue
			}
			for _, n := range []uint64{1, 2, 300, 1 << 32, 1 << 63, top - uint64(j)} {
				holds(t, fmt.Sprintf("%d too few of %d", n, j), of(l), at(origin, own+1, 99, one(j, uint64(j)+n)), 0)
			}
			want := l
			x := at(origin, own+1, 99, one(j, uint64(j)))
			want[origin] = append(slices.Clone(l[origin]), x)
			answers(t, "none too few", of(l), x, of(want), 1, api.OK)
		}
	}
	holds(t, "an early stamp is asked behind what is missing", of(l), at(5, 6, 1, api.Vector{1, 1, 2}), 0)
}

// P13.1: another one of its Origin and Seq that waits at its place is a clash, whatever is unlike; one of another number is none.
func TestClash(t *testing.T) {
	for _, n := range []int{1, 2, 5, most - 1, most, most + 1, 100} {
		in := of(api.Logs{6: alone(6, 3)}, waiting(n)...)
		for _, place := range []int{0, n / 2, n - 1} {
			x := in.Wait[place]
			for name, y := range others(x) {
				refuses(t, fmt.Sprintf("%d wait, place %d: %s", n, place, name), in, y, api.ErrClash)
				stays(t, "that one itself: "+name, of(in.Logs, y), y)
			}
			stays(t, fmt.Sprintf("%d wait, place %d", n, place), in, x)
		}
	}
}

// P13.1: as many wait as may, and not one more; what waits already is no error.
func TestFull(t *testing.T) {
	for _, n := range []int{0, 1, most - 2, most - 1, most, most + 1, most + 2, 100, 1000} {
		in := of(api.Logs{6: alone(6, 3)}, waiting(n)...)
		for place := range n + 1 {
			x := early(0, 1)
			if place > 0 {
				x = early(in.Wait[place-1].Origin, in.Wait[place-1].Seq+1)
			}
			name := fmt.Sprintf("%d wait, place %d", n, place)
			if n < most {
				holds(t, name, in, x, place)
			} else {
				refuses(t, name, in, x, api.ErrFull)
			}
		}
		for i, x := range in.Wait {
			stays(t, fmt.Sprintf("%d wait, the very same one as number %d", n, i), in, x)
		}
	}
}

// P13.1: how many wait is asked of what has to wait alone: others come in, and let in as many as there are.
func TestFullLetsIn(t *testing.T) {
	for _, n := range []int{most - 1, most, most + 1, 300} {
		in := of(api.Logs{6: alone(6, 3)}, waiting(n)...)
		x := at(6, 4, 4, api.Vector{})
		receives(t, "one that lets in none", in, x, of(api.Logs{6: append(alone(6, 3), x)}, in.Wait...))
		receives(t, "one that is there", in, in.Logs[6][1], in)
		refuses(t, "another one of what is there", in, unlike(in.Logs[6][1]), api.ErrClash)
		refuses(t, "one with an early stamp", in, at(6, 4, 3, api.Vector{}), api.ErrTxn)
		refuses(t, "one that may not be, and would wait", in, with(early(0, 1), func(x *api.Txn) { x.Stamp = 0 }), api.ErrTxn)
		l, all := chain(n+1, 0, 1, 2, 3)
		back := slices.Clone(all[1:])
		slices.Reverse(back)
		answers(t, "one that lets in all", of(api.Logs{}, back...), all[0], of(l), n+1, api.OK)
	}
}

// P13.1: a Wait that doesn't stand by Origin and Seq: the place is the first one that doesn't stand ahead, whatever stands behind it.
func TestUnordered(t *testing.T) {
	a, b, c, d := early(1, 4), early(3, 2), early(3, 7), early(5, 4)
	in := of(api.Logs{}, c, a, d, b) // 3.7, 1.4, 5.4, 3.2
	stays(t, "3.7", in, c)
	stays(t, "5.4", in, d)
	refuses(t, "another 3.7", in, unlike(c), api.ErrClash)
	refuses(t, "another 5.4", in, unlike(d), api.ErrClash)
	holds(t, "1.4, which stands elsewhere", in, a, 0)
	holds(t, "another 1.4", in, unlike(a), 0)
	holds(t, "3.2, which stands elsewhere", in, b, 0)
	holds(t, "another 3.2", in, unlike(b), 0)
	for _, k := range []struct{ origin, seq, place int }{
		{0, 1, 0}, {1, 3, 0}, {1, 5, 0}, {3, 1, 0}, {3, 3, 0}, {3, 6, 0},
		{3, 8, 2}, {4, 1, 2}, {5, 3, 2}, {5, 5, 4}, {6, 1, 4}, {7, 2, 4},
	} {
		holds(t, fmt.Sprintf("%d.%d", k.origin, k.seq), in, early(k.origin, uint64(k.seq)), k.place)
	}
	falling := waiting(20)
	slices.Reverse(falling)
	for i, x := range falling {
		if in := of(api.Logs{}, falling...); i == 0 {
			stays(t, "the first one", in, x)
		} else {
			holds(t, "one that stands behind greater ones", in, x, 0)
		}
	}
}

// P13.1: a Wait that has one twice, or two unlike ones of one number: the first of them stands at the place.
func TestTwice(t *testing.T) {
	a, b, c := early(1, 4), early(3, 2), early(5, 4)
	stays(t, "twice", of(api.Logs{}, a, b, b, c), b)
	refuses(t, "another one of what stands twice", of(api.Logs{}, a, b, b, c), unlike(b), api.ErrClash)
	stays(t, "unlike ones, the first", of(api.Logs{}, a, b, unlike(b), c), b)
	refuses(t, "unlike ones, the second", of(api.Logs{}, a, b, unlike(b), c), unlike(b), api.ErrClash)
	stays(t, "unlike ones, the other way round", of(api.Logs{}, a, unlike(b), b, c), unlike(b))
	holds(t, "it stands behind its place", of(api.Logs{}, a, c, b), b, 1)
	holds(t, "it stands twice behind its place", of(api.Logs{}, a, c, b, b), b, 1)
	stays(t, "it stands at its place and elsewhere", of(api.Logs{}, a, b, c, b), b)
	refuses(t, "another one stands at its place, it itself elsewhere", of(api.Logs{}, a, unlike(b), c, b), b, api.ErrClash)
	first := at(7, 1, 1, api.Vector{})
	one, two := at(1, 1, 3, one(7, 1)), at(2, 1, 3, one(7, 1))
	answers(t, "what stands twice comes in once", of(api.Logs{}, two, one, two, a, one, a), first, of(api.Logs{1: {one}, 2: {two}, 7: {first}}, a, a), 3, api.OK)
	answers(t, "of unlike ones the first one comes in", of(api.Logs{}, unlike(two), one, two, unlike(one)), first, of(api.Logs{1: {one}, 2: {unlike(two)}, 7: {first}}), 3, api.OK)
}

// P13.1: as many wait as may, and it stands elsewhere than at its place: there is no room.
func TestFullElsewhere(t *testing.T) {
	for _, n := range []int{most - 1, most, most + 1} {
		in := of(api.Logs{}, waiting(n)...)
		slices.Reverse(in.Wait)
		stays(t, "at its place", in, in.Wait[0])
		refuses(t, "another one at its place", in, unlike(in.Wait[0]), api.ErrClash)
		for _, x := range []api.Txn{in.Wait[1], in.Wait[n/2], in.Wait[n-1], unlike(in.Wait[1]), unlike(in.Wait[n-1])} {
			if n < most {
				holds(t, "elsewhere", in, x, 0)
			} else {
				refuses(t, "elsewhere", in, x, api.ErrFull)
			}
		}
	}
}

// P13.1: what waits may be anything: the place goes by the Origin and the Seq that each tells.
func TestAnythingWaits(t *testing.T) {
	below, nothing, above := api.Txn{Origin: math.MinInt, Seq: top}, api.Txn{}, api.Txn{Origin: math.MaxInt, Stamp: top}
	in := of(api.Logs{}, below, nothing, early(1, 4), api.Txn{Origin: 2, Seq: 6}, above)
	holds(t, "behind nothing", in, early(0, 1), 2)
	holds(t, "ahead of one that is no transaction", in, early(2, 5), 3)
	holds(t, "behind one that is no transaction", in, early(2, 7), 4)
	holds(t, "ahead of no member", in, early(7, 9), 4)
	refuses(t, "one that is no transaction stands at its place", in, early(2, 6), api.ErrClash)
	stays(t, "1.4", in, early(1, 4))
	holds(t, "no member stands first", of(api.Logs{}, above, early(1, 4)), early(1, 4), 0)
	var many api.Inbox
	many.Wait = make([]api.Txn, 70000)
	refuses(t, "many nothings wait", many, early(0, 1), api.ErrFull)
	answers(t, "many nothings are let go", many, at(0, 1, 1, api.Vector{}), of(api.Logs{{at(0, 1, 1, api.Vector{})}}), 1, api.OK)
	many.Wait[69999] = early(3, 3)
	stays(t, "behind many nothings", many, early(3, 3))
}
