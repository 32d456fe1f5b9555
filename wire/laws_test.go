package wire_test

import (
	"math/rand"
	"slices"
	"testing"
	"unsafe"

	"levee/api"
	"levee/wire"
)

// someNet: some packets, some of no members, members on few sides; of some nets all are on one.
func someNet(r *rand.Rand) api.Net {
	n := api.Net{Next: r.Intn(100) - 10}
	wild := r.Intn(3) == 0
	for range r.Intn(8) {
		p := packet(r.Intn(5), r.Intn(8), r.Intn(8), string([]byte{byte(r.Intn(256)), byte(r.Intn(3))}[:r.Intn(3)]))
		if wild {
			p.From, p.To = r.Intn(12)-2, r.Intn(12)-2
		}
		n.Bag = append(n.Bag, p)
	}
	sides := 1 + r.Intn(4)
	for i := range n.Side {
		n.Side[i] = r.Intn(sides) - r.Intn(2)*8
	}
	return n
}

// reach: the pairs of members of one side, each side gone through for itself.
func reach(n api.Net) map[[2]int]int {
	pairs := map[[2]int]int{}
	for a, s := range n.Side {
		for b, other := range n.Side {
			if s == other {
				pairs[[2]int{a, b}] = 1
			}
		}
	}
	return pairs
}

// plainTake is Take as the chapter's words tell it.
func plainTake(n api.Net, k int) (api.Net, api.Packet, api.Errno) {
	rest := n
	rest.Bag = nil
	var taken []api.Packet
	for place, p := range n.Bag {
		if place == k && reach(n)[[2]int{p.From, p.To}] == 1 {
			taken = append(taken, p)
		} else {
			rest.Bag = append(rest.Bag, p)
		}
	}
	if len(taken) == 0 {
		return api.Net{}, api.Packet{}, 40
	}
	return rest, taken[0], 0
}

// P4.1, P4.2: Take takes the one packet and leaves all others in their order.
func TestTakeAsTold(t *testing.T) {
	r := rand.New(rand.NewSource(1))
	taken, refused := 0, 0
	for range 5000 {
		n, k := someNet(r), r.Intn(9)-1
		was := slices.Clone(n.Bag)
		got, p, err := wire.Take(n, k)
		want, wanted, wantErr := plainTake(n, k)
		if !same(got, want) || p != wanted || err != wantErr || !slices.Equal(n.Bag, was) {
			t.Fatalf("Take(%v, %d) = %v, %v, %v; want %v, %v, %v", n, k, got, p, err, want, wanted, wantErr)
		}
		if err == api.OK {
			taken++
		} else {
			refused++
		}
	}
	if taken < 500 || refused < 500 {
		t.Errorf("%d were taken, %d refused", taken, refused)
	}
}

// P4.2: what Ready tells can be taken, and nothing else.
func TestReadyIsWhatCanBeTaken(t *testing.T) {
	r := rand.New(rand.NewSource(2))
	for range 3000 {
		n := someNet(r)
		var can []int
		for k := -3; k < len(n.Bag)+3; k++ {
			if _, _, err := wire.Take(n, k); err == api.OK {
				can = append(can, k)
			}
		}
		if got := wire.Ready(n); !slices.Equal(got, can) {
			t.Fatalf("Ready(%v) = %v; %v can be taken", n, got, can)
		}
	}
}

// P4.2: all that is sent between members of one side can be taken, in any order, each packet once.
func TestAllComeThrough(t *testing.T) {
	r := rand.New(rand.NewSource(3))
	for range 300 {
		var n api.Net
		count := r.Intn(30)
		for i := range count {
			sent, err := wire.Send(n, r.Intn(8), r.Intn(8), string(rune('a'+i)))
			if err != api.OK {
				t.Fatalf("Send to %v: %v", n, err)
			}
			n = sent
		}
		seen := make([]int, count)
		for range count {
			ready := wire.Ready(n)
			fewer, p, err := wire.Take(n, ready[r.Intn(len(ready))])
			if err != api.OK || p.Body != string(rune('a'+p.ID)) {
				t.Fatalf("Take of %v: %v, %v", n, p, err)
			}
			seen[p.ID]++
			n = fewer
		}
		if len(n.Bag) != 0 || n.Next != count || slices.ContainsFunc(seen, func(times int) bool { return times != 1 }) {
			t.Fatalf("left %v, seen %v", n, seen)
		}
	}
}

// P4.2: a partition holds packets up and loses none: behind its end all can be taken.
func TestPartHoldsUp(t *testing.T) {
	r := rand.New(rand.NewSource(4))
	for range 1000 {
		n := someNet(r)
		var side api.Vector
		for i := range side {
			side[i] = r.Uint64()
		}
		apart := wire.Part(n, side)
		for k, p := range apart.Bag {
			through := p.From >= 0 && p.From < 8 && p.To >= 0 && p.To < 8 && side[p.From]&7 == side[p.To]&7
			if slices.Contains(wire.Ready(apart), k) != through {
				t.Fatalf("Ready(%v) = %v", apart, wire.Ready(apart))
			}
		}
		healed := wire.Part(apart, api.Vector{})
		if !slices.Equal(healed.Bag, n.Bag) || healed.Next != n.Next || healed.Side != [8]int{} {
			t.Fatalf("Part twice of %v: %v", n, healed)
		}
	}
}

// P4.3: Twice, then Lose of the last place, is the net as it was.
func TestTwiceThenLose(t *testing.T) {
	r := rand.New(rand.NewSource(5))
	for range 2000 {
		n := someNet(r)
		for k := range n.Bag {
			more, err := wire.Twice(n, k)
			if err != api.OK || len(more.Bag) != len(n.Bag)+1 || more.Bag[len(n.Bag)] != n.Bag[k] {
				t.Fatalf("Twice(%v, %d) = %v, %v", n, k, more, err)
			}
			if back, err := wire.Lose(more, len(n.Bag)); !same(back, n) || err != api.OK {
				t.Fatalf("Lose behind Twice(%v, %d) = %v, %v", n, k, back, err)
			}
		}
	}
}

// P4.3: Send, then Lose of the last place, is the net as it was, but for Next.
func TestSendThenLose(t *testing.T) {
	r := rand.New(rand.NewSource(6))
	for range 2000 {
		n := someNet(r)
		more, err := wire.Send(n, r.Intn(8), r.Intn(8), "new")
		if err != api.OK || len(more.Bag) != len(n.Bag)+1 || more.Bag[len(n.Bag)].ID != n.Next {
			t.Fatalf("Send on %v = %v, %v", n, more, err)
		}
		back, err := wire.Lose(more, len(n.Bag))
		if back.Next != n.Next+1 || err != api.OK {
			t.Fatalf("Lose behind Send on %v = %v, %v", n, back, err)
		}
		if back.Next = n.Next; !same(back, n) {
			t.Fatalf("Lose behind Send on %v = %v", n, back)
		}
	}
}

// A room holds texts in bytes that can be changed behind the back of whoever kept one of them.
type room struct{ parts [][]byte }

func (m *room) text(s string) string {
	b := []byte(s)
	m.parts = append(m.parts, b)
	return unsafe.String(unsafe.SliceData(b), len(b))
}

func (m *room) change() {
	for _, b := range m.parts {
		clear(b)
	}
}

// roomy: a net whose bodies lie in m, with spare room behind its packets.
func roomy(m *room) api.Net {
	bag := make([]api.Packet, 0, 8)
	bag = append(bag, packet(1, 0, 1, m.text("ab")), packet(2, 1, 2, m.text("cd")), packet(3, 2, 0, m.text("ef")))
	return parted(api.Net{Bag: bag, Next: 4}, 0, 0, 1)
}

// P4.1: a net that was handed in stays as it was, its spare room too, and isn't kept; an answer is new memory.
func TestHandedIn(t *testing.T) {
	a, b, c := packet(1, 0, 1, "ab"), packet(2, 1, 2, "cd"), packet(3, 2, 0, "ef")
	for _, x := range []struct {
		name string
		call func(m *room, n api.Net) api.Net
		want []api.Packet
	}{
		{"Send", func(m *room, n api.Net) api.Net {
			n, _ = wire.Send(n, 5, 6, m.text("gh"))
			return n
		}, []api.Packet{a, b, c, packet(4, 5, 6, "gh")}},
		{"Take", func(m *room, n api.Net) api.Net {
			n, p, _ := wire.Take(n, 0)
			n.Bag = append(n.Bag, p)
			return n
		}, []api.Packet{b, c, a}},
		{"Lose of the first", func(m *room, n api.Net) api.Net {
			n, _ = wire.Lose(n, 0)
			return n
		}, []api.Packet{b, c}},
		{"Lose of the last", func(m *room, n api.Net) api.Net {
			n, _ = wire.Lose(n, 2)
			return n
		}, []api.Packet{a, b}},
		{"Twice", func(m *room, n api.Net) api.Net {
			n, _ = wire.Twice(n, 1)
			return n
		}, []api.Packet{a, b, c, b}},
		{"Part", func(m *room, n api.Net) api.Net { return wire.Part(n, api.Vector{9}) }, []api.Packet{a, b, c}},
		{"Copy", func(m *room, n api.Net) api.Net { return wire.Copy(n) }, []api.Packet{a, b, c}},
		{"what is refused", func(m *room, n api.Net) api.Net {
			wire.Send(n, 0, 8, "")
			wire.Take(n, 1)
			wire.Take(n, 3)
			wire.Lose(n, 3)
			wire.Twice(n, -1)
			return api.Net{}
		}, nil},
	} {
		var m room
		n := roomy(&m)
		got := x.call(&m, n)
		spare := n.Bag[len(n.Bag):cap(n.Bag)]
		if !same(n, roomy(new(room))) || slices.ContainsFunc(spare, func(p api.Packet) bool { return p != (api.Packet{}) }) {
			t.Errorf("%s changed the net that was handed in: %v", x.name, n.Bag[:cap(n.Bag)])
		}
		m.change()
		clear(n.Bag)
		if !slices.Equal(got.Bag, x.want) {
			t.Errorf("%s: %v, want %v", x.name, got.Bag, x.want)
		}
		for i := range got.Bag {
			got.Bag[i].ID = 99
		}
		if slices.ContainsFunc(n.Bag, func(p api.Packet) bool { return p != (api.Packet{}) }) {
			t.Errorf("%s: what was handed in is of the answer", x.name)
		}
	}
}
