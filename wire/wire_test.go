package wire_test

import (
	"math"
	"slices"
	"strings"
	"testing"

	"levee/api"
	"levee/wire"
)

// same: are both nets alike, packet by packet?
func same(a, b api.Net) bool {
	return slices.Equal(a.Bag, b.Bag) && a.Next == b.Next && a.Side == b.Side
}

func packet(id, from, to int, body string) api.Packet {
	return api.Packet{ID: id, From: from, To: to, Body: body}
}

// of: the net of these packets, all members on side 0, with a Next that tells nothing of them.
func of(packets ...api.Packet) api.Net { return api.Net{Bag: packets, Next: 70} }

// parted: n with these sides.
func parted(n api.Net, side ...int) api.Net {
	copy(n.Side[:], side)
	return n
}

// filled: a net of k packets from 0 to 1.
func filled(k int) api.Net {
	n := api.Net{Next: k}
	for i := range k {
		n.Bag = append(n.Bag, packet(i, 0, 1, "p"))
	}
	return n
}

// three: packets whose members, IDs and bodies are all unlike.
func three() api.Net {
	return of(packet(5, 0, 1, "a"), packet(3, 1, 2, "b"), packet(9, 2, 0, "c"))
}

// strays: packets of no members between packets of some.
func strays() api.Net {
	return of(packet(1, -1, 0, "a"), packet(2, 0, 7, "b"), packet(3, 0, 8, "c"), packet(4, math.MinInt, math.MaxInt, "d"),
		packet(5, 3, 3, "e"), packet(6, 8, 8, "f"), packet(7, -1, -1, "g"), packet(8, math.MaxInt, 1, "h"))
}

// P4.1: the chapter's examples.
func TestExamples(t *testing.T) {
	if n, err := wire.Send(api.Net{}, 0, 8, "a"); !same(n, api.Net{}) || err != api.ErrArg {
		t.Errorf("Send(0, 8) = %v, %v", n, err)
	}
	n, err := wire.Send(parted(api.Net{}, 0, 1), 0, 1, "a")
	if !same(n, parted(api.Net{Bag: []api.Packet{packet(0, 0, 1, "a")}, Next: 1}, 0, 1)) || err != api.OK {
		t.Fatalf("Send(0, 1) = %v, %v", n, err)
	}
	if got := wire.Ready(n); len(got) != 0 {
		t.Errorf("Ready between two sides = %v", got)
	}
	if after, p, err := wire.Take(n, 0); !same(after, api.Net{}) || p != (api.Packet{}) || err != api.ErrWire {
		t.Errorf("Take between two sides = %v, %v, %v", after, p, err)
	}
}

// P4.1: Send puts a packet behind all others, whatever sides there are and whatever the net holds.
func TestSend(t *testing.T) {
	for _, c := range []struct {
		name     string
		n        api.Net
		from, to int
		body     string
		want     api.Net
	}{
		{"the first", api.Net{}, 0, 1, "a", api.Net{Bag: []api.Packet{packet(0, 0, 1, "a")}, Next: 1}},
		{"one behind three", three(), 2, 1, "d", api.Net{Bag: append(three().Bag, packet(70, 2, 1, "d")), Next: 71}},
		{"the last member to the first", api.Net{}, 7, 0, "a", api.Net{Bag: []api.Packet{packet(0, 7, 0, "a")}, Next: 1}},
		{"the first to the last", api.Net{}, 0, 7, "a", api.Net{Bag: []api.Packet{packet(0, 0, 7, "a")}, Next: 1}},
		{"to itself", api.Net{}, 4, 4, "a", api.Net{Bag: []api.Packet{packet(0, 4, 4, "a")}, Next: 1}},
		{"no body", api.Net{}, 0, 1, "", api.Net{Bag: []api.Packet{packet(0, 0, 1, "")}, Next: 1}},
		{"any bytes", api.Net{}, 0, 1, "\x00\xff\n", api.Net{Bag: []api.Packet{packet(0, 0, 1, "\x00\xff\n")}, Next: 1}},
		{"between two sides", parted(api.Net{}, 0, 1), 0, 1, "a", parted(api.Net{Bag: []api.Packet{packet(0, 0, 1, "a")}, Next: 1}, 0, 1)},
		{"a Next below 0", api.Net{Next: -5}, 0, 1, "a", api.Net{Bag: []api.Packet{packet(-5, 0, 1, "a")}, Next: -4}},
		{"the greatest Next", api.Net{Next: math.MaxInt}, 0, 1, "a", api.Net{Bag: []api.Packet{packet(math.MaxInt, 0, 1, "a")}, Next: math.MinInt}},
		{"a Next that was given out", of(packet(70, 0, 1, "a")), 0, 1, "b", api.Net{Bag: []api.Packet{packet(70, 0, 1, "a"), packet(70, 0, 1, "b")}, Next: 71}},
		{"behind packets of no members", strays(), 0, 1, "a", api.Net{Bag: append(strays().Bag, packet(70, 0, 1, "a")), Next: 71}},
	} {
		if got, err := wire.Send(c.n, c.from, c.to, c.body); !same(got, c.want) || err != api.OK {
			t.Errorf("%s: %v, %v; want %v", c.name, got, err, c.want)
		}
	}
}

// P4.1: all members, and the numbers about them.
func TestSendMembers(t *testing.T) {
	numbers := []int{math.MinInt, -8, -1, 0, 1, 2, 3, 4, 5, 6, 7, 8, 9, 1 << 32, math.MaxInt}
	for _, from := range numbers {
		for _, to := range numbers {
			n, err := wire.Send(three(), from, to, "d")
			if from >= 0 && from <= 7 && to >= 0 && to <= 7 {
				if err != api.OK || len(n.Bag) != 4 || n.Bag[3] != packet(70, from, to, "d") {
					t.Errorf("Send(%d, %d) = %v, %v", from, to, n, err)
				}
			} else if !same(n, api.Net{}) || err != api.ErrArg {
				t.Errorf("Send(%d, %d) = %v, %v; want ErrArg", from, to, n, err)
			}
		}
	}
}

// P4.1: a body of just MaxBytes bytes, just MaxBag packets.
func TestSendLimits(t *testing.T) {
	body := strings.Repeat("x", 1<<20)
	if n, err := wire.Send(api.Net{}, 0, 1, body); err != api.OK || len(n.Bag) != 1 || n.Bag[0] != packet(0, 0, 1, body) {
		t.Errorf("2^20 bytes: %d packets, %v", len(n.Bag), err)
	}
	n, err := wire.Send(filled(1023), 2, 3, "z")
	if err != api.OK || !slices.Equal(n.Bag[:1023], filled(1023).Bag) || !slices.Equal(n.Bag[1023:], []api.Packet{packet(1023, 2, 3, "z")}) {
		t.Errorf("the 1024th packet: %d packets, %v", len(n.Bag), err)
	}
	long := of(packet(0, 0, 1, body+"y"))
	if n, err := wire.Send(long, 0, 1, "a"); err != api.OK || !slices.Equal(n.Bag, append(long.Bag, packet(70, 0, 1, "a"))) {
		t.Errorf("behind a body that is too long: %d packets, %v", len(n.Bag), err)
	}
}

// P4.1: what Send refuses, the error that the chapter names first ahead.
func TestSendRefuses(t *testing.T) {
	long := strings.Repeat("x", 1<<20+1)
	for _, c := range []struct {
		name     string
		n        api.Net
		from, to int
		body     string
		want     api.Errno
	}{
		{"from below 0", api.Net{}, -1, 0, "", api.ErrArg},
		{"to below 0", api.Net{}, 0, -1, "", api.ErrArg},
		{"from 8", api.Net{}, 8, 0, "", api.ErrArg},
		{"to 8", api.Net{}, 0, 8, "", api.ErrArg},
		{"no members, too long", api.Net{}, 8, 8, long, api.ErrArg},
		{"to 8, too long and full", filled(1024), 0, 8, long, api.ErrArg},
		{"from -1, full", filled(1024), -1, 0, "", api.ErrArg},
		{"too long", api.Net{}, 0, 1, long, api.ErrLong},
		{"too long by far", api.Net{}, 0, 1, long + long, api.ErrLong},
		{"too long and full", filled(1024), 0, 1, long, api.ErrLong},
		{"full", filled(1024), 0, 1, "a", api.ErrFull},
		{"full, no body", filled(1024), 0, 1, "", api.ErrFull},
		{"more than full", filled(1025), 0, 1, "a", api.ErrFull},
		{"far more than full", filled(3000), 0, 1, "a", api.ErrFull},
	} {
		if got, err := wire.Send(c.n, c.from, c.to, c.body); !same(got, api.Net{}) || err != c.want {
			t.Errorf("%s: %d packets, %v; want %v", c.name, len(got.Bag), err, c.want)
		}
	}
}

// P4.1: Take and Lose of each place.
func TestTakeAndLose(t *testing.T) {
	for _, c := range []struct {
		name string
		n    api.Net
		k    int
		want api.Net
	}{
		{"the first", three(), 0, of(packet(3, 1, 2, "b"), packet(9, 2, 0, "c"))},
		{"the second", three(), 1, of(packet(5, 0, 1, "a"), packet(9, 2, 0, "c"))},
		{"the last", three(), 2, of(packet(5, 0, 1, "a"), packet(3, 1, 2, "b"))},
		{"the only one", of(packet(1, 7, 0, "a")), 0, of()},
		{"no body", of(packet(1, 3, 2, ""), packet(1, 2, 3, "")), 0, of(packet(1, 2, 3, ""))},
		{"to itself", parted(of(packet(1, 4, 4, "a")), 0, 0, 0, 0, 9), 0, parted(of(), 0, 0, 0, 0, 9)},
		{"on one side of two", parted(three(), 1, 1, 0), 0, parted(of(packet(3, 1, 2, "b"), packet(9, 2, 0, "c")), 1, 1, 0)},
		{"a side below 0", parted(of(packet(1, 0, 1, "a")), -3, -3), 0, parted(of(), -3, -3)},
		{"one of two that are alike", of(packet(1, 0, 1, "a"), packet(2, 0, 1, "b"), packet(1, 0, 1, "a")), 2, of(packet(1, 0, 1, "a"), packet(2, 0, 1, "b"))},
		{"between packets of no members", strays(), 4, api.Net{Bag: slices.Delete(strays().Bag, 4, 5), Next: 70}},
	} {
		if got, p, err := wire.Take(c.n, c.k); !same(got, c.want) || p != c.n.Bag[c.k] || err != api.OK {
			t.Errorf("Take, %s: %v, %v, %v; want %v", c.name, got, p, err, c.want)
		}
		if got, err := wire.Lose(c.n, c.k); !same(got, c.want) || err != api.OK {
			t.Errorf("Lose, %s: %v, %v; want %v", c.name, got, err, c.want)
		}
	}
}

// P4.1: what may not come through can't be taken, but it can be lost and come twice.
func TestHeldUp(t *testing.T) {
	for _, c := range []struct {
		name string
		n    api.Net
		k    int
	}{
		{"two sides", parted(three(), 0, 1), 0},
		{"two sides, the other way", parted(three(), 0, 0, 5), 2},
		{"sides 8 apart", parted(three(), 0, 8), 0},
		{"a side below 0", parted(three(), -1, 1), 0},
		{"sides 2^32 apart", parted(three(), 0, 1<<32), 0},
		{"from no member", strays(), 0},
		{"to no member", strays(), 2},
		{"from and to no members", strays(), 3},
		{"from no member to itself", strays(), 5},
		{"from -1 to itself", strays(), 6},
		{"from far beyond", strays(), 7},
	} {
		if got, p, err := wire.Take(c.n, c.k); !same(got, api.Net{}) || p != (api.Packet{}) || err != api.ErrWire {
			t.Errorf("Take, %s: %v, %v, %v", c.name, got, p, err)
		}
		fewer := c.n
		fewer.Bag = slices.Delete(slices.Clone(c.n.Bag), c.k, c.k+1)
		if got, err := wire.Lose(c.n, c.k); !same(got, fewer) || err != api.OK {
			t.Errorf("Lose, %s: %v, %v", c.name, got, err)
		}
		more := c.n
		more.Bag = append(slices.Clone(c.n.Bag), c.n.Bag[c.k])
		if got, err := wire.Twice(c.n, c.k); !same(got, more) || err != api.OK {
			t.Errorf("Twice, %s: %v, %v", c.name, got, err)
		}
	}
}

// P4.1: Twice puts the packet behind all others, with the ID that it has, and leaves Next.
func TestTwice(t *testing.T) {
	for k := range 3 {
		want := api.Net{Bag: append(three().Bag, three().Bag[k]), Next: 70}
		if got, err := wire.Twice(three(), k); !same(got, want) || err != api.OK {
			t.Errorf("Twice of place %d: %v, %v; want %v", k, got, err, want)
		}
	}
	if got, err := wire.Twice(filled(1023), 0); err != api.OK || len(got.Bag) != 1024 || got.Bag[1023] != packet(0, 0, 1, "p") || got.Next != 1023 {
		t.Errorf("the 1024th packet: %d packets, %v", len(got.Bag), err)
	}
	long := strings.Repeat("x", 1<<20+1) // a net that is handed in may hold anything
	if got, err := wire.Twice(of(packet(1, 0, 1, long)), 0); err != api.OK || len(got.Bag) != 2 || got.Bag[1] != packet(1, 0, 1, long) {
		t.Errorf("a body that is too long: %d packets, %v", len(got.Bag), err)
	}
}

// P4.1: places outside the list; of Twice ErrWire comes ahead of ErrFull.
func TestPlaces(t *testing.T) {
	for _, n := range []api.Net{{}, three(), filled(1024), filled(1500), parted(three(), 0, 1, 2)} {
		for _, k := range []int{math.MinInt, -len(n.Bag), -2, -1, len(n.Bag), len(n.Bag) + 1, 1 << 32, math.MaxInt} {
			if k == 0 && len(n.Bag) != 0 {
				continue
			}
			if got, p, err := wire.Take(n, k); !same(got, api.Net{}) || p != (api.Packet{}) || err != api.ErrWire {
				t.Errorf("Take of %d of %d: %d packets, %v, %v", k, len(n.Bag), len(got.Bag), p, err)
			}
			if got, err := wire.Lose(n, k); !same(got, api.Net{}) || err != api.ErrWire {
				t.Errorf("Lose of %d of %d: %d packets, %v", k, len(n.Bag), len(got.Bag), err)
			}
			if got, err := wire.Twice(n, k); !same(got, api.Net{}) || err != api.ErrWire {
				t.Errorf("Twice of %d of %d: %d packets, %v", k, len(n.Bag), len(got.Bag), err)
			}
		}
	}
	for _, size := range []int{1024, 1025, 2000} {
		for _, k := range []int{0, size / 2, size - 1} {
			if got, err := wire.Twice(filled(size), k); !same(got, api.Net{}) || err != api.ErrFull {
				t.Errorf("Twice of %d of %d: %d packets, %v", k, size, len(got.Bag), err)
			}
			if got, p, err := wire.Take(filled(size), k); err != api.OK || len(got.Bag) != size-1 || p.ID != k {
				t.Errorf("Take of %d of %d: %d packets, %v, %v", k, size, len(got.Bag), p, err)
			}
			if got, err := wire.Lose(filled(size), k); err != api.OK || len(got.Bag) != size-1 {
				t.Errorf("Lose of %d of %d: %d packets, %v", k, size, len(got.Bag), err)
			}
		}
	}
}

// P4.1: Part.
func TestPart(t *testing.T) {
	for _, c := range []struct {
		name string
		side api.Vector
		want [8]int
	}{
		{"noughts", api.Vector{}, [8]int{}},
		{"two sides", api.Vector{0, 1, 0, 1, 1, 1, 0, 0}, [8]int{0, 1, 0, 1, 1, 1, 0, 0}},
		{"each its own", api.Vector{7, 6, 5, 4, 3, 2, 1, 0}, [8]int{7, 6, 5, 4, 3, 2, 1, 0}},
		{"8 and more", api.Vector{8, 9, 15, 16, 17, 63, 64, 1000}, [8]int{0, 1, 7, 0, 1, 7, 0, 0}},
		{"the greatest", api.Vector{math.MaxUint64, math.MaxInt64, 1 << 63, 1<<63 + 3, math.MaxUint64 - 1, 1 << 32, 1<<32 - 1, 1<<32 + 5}, [8]int{7, 7, 0, 3, 6, 0, 7, 5}},
	} {
		for _, n := range []api.Net{{}, parted(three(), 4, -4, 100, 3, 3, 3, math.MaxInt, math.MinInt), strays(), filled(1100)} {
			want := n
			want.Side = c.want
			if got := wire.Part(n, c.side); !same(got, want) {
				t.Errorf("%s: %v, want %v", c.name, got.Side, c.want)
			}
		}
	}
}

// P4.1: Ready.
func TestReady(t *testing.T) {
	ring := of(packet(1, 0, 1, ""), packet(2, 1, 2, ""), packet(3, 2, 3, ""), packet(4, 3, 0, ""), packet(5, 0, 0, ""), packet(6, 7, 6, ""))
	for _, c := range []struct {
		name string
		n    api.Net
		want []int
	}{
		{"no packet", api.Net{}, nil},
		{"no packet, two sides", parted(api.Net{}, 1, 2), nil},
		{"one side", ring, []int{0, 1, 2, 3, 4, 5}},
		{"one side that isn't 0", parted(ring, 5, 5, 5, 5, 5, 5, 5, 5), []int{0, 1, 2, 3, 4, 5}},
		{"two sides", parted(ring, 1, 1), []int{0, 2, 4, 5}},
		{"two sides, crossed", parted(ring, 1, 0, 1, 0), []int{4, 5}},
		{"the first alone", parted(ring, 1), []int{1, 2, 4, 5}},
		{"the last alone", parted(ring, 0, 0, 0, 0, 0, 0, 0, 1), []int{0, 1, 2, 3, 4}},
		{"each its own", parted(ring, 0, 1, 2, 3, 4, 5, 6, 7), []int{4}},
		{"sides 8 apart", parted(ring, 0, 8, 0, 8, 8, 8, 8, 8), []int{4, 5}},
		{"sides below 0", parted(ring, -1, 1, 1, -1, -7, -7, 7, -7), []int{1, 3, 4}},
		{"packets of no members", strays(), []int{1, 4}},
		{"packets of no members, the last alone", parted(strays(), 0, 0, 0, 0, 0, 0, 0, 1), []int{4}},
	} {
		if got := wire.Ready(c.n); !slices.Equal(got, c.want) {
			t.Errorf("%s: %v, want %v", c.name, got, c.want)
		}
	}
	if got := wire.Ready(filled(1500)); len(got) != 1500 || !slices.IsSorted(got) || got[0] != 0 || got[1499] != 1499 {
		t.Errorf("of 1500 packets %d are ready", len(got))
	}
}

// P4.1: Copy.
func TestCopy(t *testing.T) {
	for _, n := range []api.Net{
		{},
		{Next: math.MinInt},
		three(),
		strays(),
		parted(three(), -1, 8, math.MaxInt, 0, 0, 0, 0, math.MinInt),
		filled(1500),
	} {
		if got := wire.Copy(n); !same(got, n) {
			t.Errorf("Copy(%v) = %v", n, got)
		}
	}
}
