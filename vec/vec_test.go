package vec_test

import (
	"math"
	"math/rand"
	"testing"

	"levee/api"
	"levee/vec"
)

const top = math.MaxUint64

// someVectors: the edges, each member alone, and vectors of few unlike numbers, so that many of them are alike in part.
func someVectors() []api.Vector {
	l := []api.Vector{
		{},
		{1, 1, 1, 1, 1, 1, 1, 1},
		{top, top, top, top, top, top, top, top},
		{0, 1, 2, 3, 4, 5, 6, 7},
		{7, 6, 5, 4, 3, 2, 1, 0},
		{1 << 63, 1<<63 - 1, 1 << 32, 1<<32 - 1, 1 << 31, 1, top - 1, top},
	}
	for i := range api.MaxMembers {
		var one, greatest api.Vector
		one[i], greatest[i] = 1, top
		l = append(l, one, greatest)
	}
	r := rand.New(rand.NewSource(1))
	numbers := []uint64{0, 1, 2, 1<<63 - 1, 1 << 63, top - 1, top}
	for range 40 {
		var v, w api.Vector
		for i := range v {
			v[i] = numbers[r.Intn(2)]
			w[i] = numbers[r.Intn(len(numbers))]
		}
		l = append(l, v, w)
	}
	return l
}

// plainLeq is Leq as the chapter's words tell it.
func plainLeq(a, b api.Vector) bool {
	above := 0
	for i := range 8 {
		if a[i] > b[i] {
			above++
		}
	}
	return above == 0
}

// P2.1: Leq.
func TestLeq(t *testing.T) {
	l := someVectors()
	for _, a := range l {
		for _, b := range l {
			if got := vec.Leq(a, b); got != plainLeq(a, b) {
				t.Fatalf("Leq(%v, %v) = %v", a, b, got)
			}
		}
	}
}

func TestLeqLooksAtEachMember(t *testing.T) {
	for i := range api.MaxMembers {
		low, high := api.Vector{3, 3, 3, 3, 3, 3, 3, 3}, api.Vector{3, 3, 3, 3, 3, 3, 3, 3}
		high[i] = 4
		if !vec.Leq(low, high) || vec.Leq(high, low) || !vec.Leq(high, high) {
			t.Errorf("member %d: %v, %v, %v", i, vec.Leq(low, high), vec.Leq(high, low), vec.Leq(high, high))
		}
		high[i] = 1 << 63 // where numbers with a sign would go below nought
		if !vec.Leq(low, high) || vec.Leq(high, low) {
			t.Errorf("member %d with 2^63: %v, %v", i, vec.Leq(low, high), vec.Leq(high, low))
		}
	}
}

// P2.1: Join and Meet.
func TestJoinMeet(t *testing.T) {
	a := api.Vector{0, 5, 9, 1 << 63, top, 3, 0, top}
	b := api.Vector{1, 4, 9, 1<<63 - 1, 0, 3, 0, top - 1}
	if got, want := vec.Join(a, b), (api.Vector{1, 5, 9, 1 << 63, top, 3, 0, top}); got != want {
		t.Errorf("Join = %v, want %v", got, want)
	}
	if got, want := vec.Meet(a, b), (api.Vector{0, 4, 9, 1<<63 - 1, 0, 3, 0, top - 1}); got != want {
		t.Errorf("Meet = %v, want %v", got, want)
	}
	l := someVectors()
	for _, a := range l {
		for _, b := range l {
			join, meet := vec.Join(a, b), vec.Meet(a, b)
			for i := range 8 {
				greater, lesser := a[i], b[i]
				if greater < lesser {
					greater, lesser = lesser, greater
				}
				if join[i] != greater || meet[i] != lesser {
					t.Fatalf("of %v, %v: Join %v, Meet %v", a, b, join, meet)
				}
			}
		}
	}
}

// P2.1: Order.
func TestOrder(t *testing.T) {
	for _, c := range []struct {
		a, b api.Vector
		want int
	}{
		{api.Vector{1}, api.Vector{0, 1}, 2},
		{api.Vector{}, api.Vector{}, 0},
		{api.Vector{top, 2}, api.Vector{top, 2}, 0},
		{api.Vector{}, api.Vector{0, 0, 0, 0, 0, 0, 0, 1}, -1},
		{api.Vector{0, 0, 0, 0, 0, 0, 0, 1}, api.Vector{}, 1},
		{api.Vector{1, 2}, api.Vector{1, 3}, -1},
		{api.Vector{1, 3}, api.Vector{1, 2}, 1},
		{api.Vector{0, 2}, api.Vector{1, 3}, -1},
		{api.Vector{2, 2}, api.Vector{1, 3}, 2},
		{api.Vector{1 << 63}, api.Vector{1<<63 - 1}, 1},
		{api.Vector{0, 0, 0, 0, 0, 0, 1, 0}, api.Vector{0, 0, 0, 0, 0, 0, 0, 1}, 2},
	} {
		if got := vec.Order(c.a, c.b); got != c.want {
			t.Errorf("Order(%v, %v) = %d, want %d", c.a, c.b, got, c.want)
		}
	}
}

func TestOrderIsOfLeq(t *testing.T) {
	l := someVectors()
	for _, a := range l {
		for _, b := range l {
			want := 2
			switch {
			case a == b:
				want = 0
			case plainLeq(a, b):
				want = -1
			case plainLeq(b, a):
				want = 1
			}
			if got := vec.Order(a, b); got != want {
				t.Fatalf("Order(%v, %v) = %d, want %d", a, b, got, want)
			}
		}
	}
}

// P2.2: Leq is an order.
func TestLeqIsAnOrder(t *testing.T) {
	l := someVectors()
	for _, a := range l {
		if !vec.Leq(a, a) {
			t.Fatalf("not Leq(%v, %[1]v)", a)
		}
		for _, b := range l {
			if vec.Leq(a, b) && vec.Leq(b, a) && a != b {
				t.Fatalf("%v and %v are each Leq the other", a, b)
			}
			for _, c := range l {
				if vec.Leq(a, b) && vec.Leq(b, c) && !vec.Leq(a, c) {
					t.Fatalf("Leq goes from %v over %v to %v, but not at once", a, b, c)
				}
			}
		}
	}
}

// P2.2: Join is the least above both, Meet the greatest below both.
func TestLattice(t *testing.T) {
	l := someVectors()
	for _, a := range l {
		for _, b := range l {
			join, meet := vec.Join(a, b), vec.Meet(a, b)
			if !vec.Leq(a, join) || !vec.Leq(b, join) {
				t.Fatalf("Join(%v, %v) = %v isn't above both", a, b, join)
			}
			if !vec.Leq(meet, a) || !vec.Leq(meet, b) {
				t.Fatalf("Meet(%v, %v) = %v isn't below both", a, b, meet)
			}
			for _, c := range l {
				if vec.Leq(a, c) && vec.Leq(b, c) && !vec.Leq(join, c) {
					t.Fatalf("%v is above %v and %v, but not above their Join %v", c, a, b, join)
				}
				if vec.Leq(c, a) && vec.Leq(c, b) && !vec.Leq(c, meet) {
					t.Fatalf("%v is below %v and %v, but not below their Meet %v", c, a, b, meet)
				}
			}
		}
	}
}

// notMembers: numbers that are none's.
var notMembers = []int{-1, 8, 9, -8, 255, 256, 264, 1 << 32, 1<<32 + 1, math.MaxInt, math.MinInt, math.MinInt + 1}

// P2.1: Has.
func TestHas(t *testing.T) {
	v := api.Vector{0, 1, 2, 3, 1 << 63, top - 1, top, 7}
	for m, n := range v {
		for _, seq := range []uint64{0, 1, 2, 3, 4, 6, 7, 8, 1<<63 - 1, 1 << 63, 1<<63 + 1, top - 2, top - 1, top} {
			if got, want := vec.Has(v, m, seq), 1 <= seq && seq <= n; got != want {
				t.Errorf("Has(%v, %d, %d) = %v", v, m, seq, got)
			}
		}
	}
	full := api.Vector{top, top, top, top, top, top, top, top}
	for _, m := range notMembers {
		for _, seq := range []uint64{0, 1, top} {
			if vec.Has(full, m, seq) {
				t.Errorf("Has of %d, which is no member, with %d", m, seq)
			}
		}
	}
}

// P2.1: Set.
func TestSet(t *testing.T) {
	v := api.Vector{10, 11, 12, 13, 14, 15, 16, 17}
	for m := range api.MaxMembers {
		for _, n := range []uint64{0, 1, v[m], 1 << 63, top} {
			got, err := vec.Set(v, m, n)
			if err != api.OK {
				t.Fatalf("Set(%v, %d, %d): %v", v, m, n, err)
			}
			for i := range got {
				want := v[i]
				if i == m {
					want = n
				}
				if got[i] != want {
					t.Errorf("Set(%v, %d, %d) = %v", v, m, n, got)
				}
			}
		}
	}
	for _, m := range notMembers {
		if got, err := vec.Set(v, m, 1); got != (api.Vector{}) || err != api.ErrArg {
			t.Errorf("Set of %d, which is no member: %v, %v", m, got, err)
		}
	}
	if v != (api.Vector{10, 11, 12, 13, 14, 15, 16, 17}) {
		t.Errorf("what was handed in became %v", v)
	}
}

// P2.4: Has just where v with s for m is Leq v, or the same.
func TestHasIsOfSet(t *testing.T) {
	for _, v := range someVectors() {
		for m := range api.MaxMembers {
			for _, s := range []uint64{1, 2, v[m] - 1, v[m], v[m] + 1, 1<<63 - 1, 1 << 63, top - 1, top} {
				if s == 0 {
					continue
				}
				with, err := vec.Set(v, m, s)
				if err != api.OK {
					t.Fatalf("Set(%v, %d, %d): %v", v, m, s, err)
				}
				if got := vec.Has(v, m, s); got != vec.Leq(with, v) {
					t.Fatalf("Has(%v, %d, %d) = %v", v, m, s, got)
				}
			}
		}
	}
}
