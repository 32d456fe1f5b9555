package table_test

import (
	"encoding/binary"
	"fmt"
	"hash/crc32"
	"math/rand"
	"slices"
	"strings"
	"testing"
	"unsafe"

	"levee/api"
	"levee/table"
)

// plainFields: the strings of which s is the Pack, if it is one.
func plainFields(s string) ([]string, bool) {
	if len(s) < 4 {
		return nil, false
	}
	n := binary.BigEndian.Uint32([]byte(s))
	s = s[4:]
	var l []string
	for range n {
		if len(s) < 4 {
			return nil, false
		}
		size := uint64(binary.BigEndian.Uint32([]byte(s)))
		if size > uint64(len(s)-4) {
			return nil, false
		}
		l, s = append(l, s[4:4+size]), s[4+size:]
	}
	return l, s == ""
}

// plainBlocks: the pairs in the frames of which s is made, if it is.
func plainBlocks(s string) (pairs []api.Pair, ok bool) {
	for s != "" {
		if len(s) < 8 {
			return nil, false
		}
		n := uint64(binary.BigEndian.Uint32([]byte(s)))
		if n > 1<<16 || n+8 > uint64(len(s)) || crc32.ChecksumIEEE([]byte(s[:4]+s[8:8+n])) != binary.BigEndian.Uint32([]byte(s[4:])) {
			return nil, false
		}
		fields, ok := plainFields(s[8 : 8+n])
		if !ok || len(fields)%2 != 0 {
			return nil, false
		}
		for i := 0; i < len(fields); i += 2 {
			pairs = append(pairs, pair(fields[i], fields[i+1]))
		}
		s = s[8+n:]
	}
	return pairs, true
}

func plainRising(l []api.Pair) bool {
	for i, p := range l {
		if i > 0 && strings.Compare(l[i-1].Key, p.Key) != -1 {
			return false
		}
	}
	return true
}

// plainFrames: may each block, and the index, have a frame?
func plainFrames(l []api.Pair) bool {
	index := 4
	for _, b := range eights(l) {
		if len(blockOf(b...)) > 8+1<<16 {
			return false
		}
		index += 16 + len(b[0].Key)
	}
	return index <= 1<<16
}

// plainAll is All as the chapter's words tell it: it begins with the end, which tells where the index stands.
func plainAll(s string) ([]api.Pair, bool) {
	if len(s) < 8 || len(s) > 1<<20 {
		return nil, false
	}
	body := s[:len(s)-8]
	n := binary.BigEndian.Uint64([]byte(s[len(body):]))
	if n > uint64(len(body)) {
		return nil, false
	}
	l, ok := plainBlocks(body[:uint64(len(body))-n])
	if !ok || len(l) > 1024 || !plainRising(l) || !plainFrames(l) || plainBuild(l) != s {
		return nil, false
	}
	return l, true
}

// asTold: All must answer what plainAll does.
func asTold(t *testing.T, s string) bool {
	t.Helper()
	want, ok := plainAll(s)
	l, err := table.All(s)
	if !slices.Equal(l, want) || ok != (err == api.OK) || !ok && err != api.ErrTable {
		t.Fatalf("All of %.300q: %d pairs, %v; want %d, %v", s, len(l), err, len(want), ok)
	}
	return ok
}

// someText: mostly short, of few letters, so that the same ones come often.
func someText(r *rand.Rand) string {
	n := r.Intn(4)
	if r.Intn(20) == 0 {
		n = r.Intn(3000)
	}
	b := make([]byte, n)
	for i := range b {
		b[i] = "\x00ab\xff"[r.Intn(4)]
	}
	return string(b)
}

// someList: pairs in any order, some of one key.
func someList(r *rand.Rand, n int) []api.Pair {
	var l []api.Pair
	for range n {
		l = append(l, pair(someText(r), someText(r)))
	}
	return l
}

// someRising: pairs that may be.
func someRising(r *rand.Rand) []api.Pair {
	n := r.Intn(40)
	if r.Intn(30) == 0 {
		n = r.Intn(1025)
	}
	l := someList(r, n)
	slices.SortFunc(l, func(p, q api.Pair) int { return strings.Compare(p.Key, q.Key) })
	return slices.CompactFunc(l, func(p, q api.Pair) bool { return p.Key == q.Key })
}

// P6.1, P6.2: Build of lists in any order, and there and back.
func TestThereAndBack(t *testing.T) {
	r := rand.New(rand.NewSource(1))
	taken, refusals := 0, 0
	for range 3000 {
		l := someRising(r)
		if r.Intn(3) == 0 {
			l = someList(r, r.Intn(12))
		}
		was := slices.Clone(l)
		s, err := table.Build(l)
		if !slices.Equal(l, was) {
			t.Fatalf("Build made %.300q of the list %.300q", l, was)
		}
		if !plainRising(l) {
			refusals++
			if s != "" || err != api.ErrArg {
				t.Fatalf("Build of %.300q: %d bytes, %v", l, len(s), err)
			}
			continue
		}
		taken++
		if s != plainBuild(l) || err != api.OK {
			t.Fatalf("Build of %.300q: %.300q, %v", l, s, err)
		}
		if back, err := table.All(s); !slices.Equal(back, l) || err != api.OK {
			t.Fatalf("All of the table of %.300q: %.300q, %v", l, back, err)
		}
	}
	if taken < 1000 || refusals < 500 {
		t.Errorf("%d lists were taken, %d refused", taken, refusals)
	}
}

// someBytes: a table, one that is put together otherwise, or pieces of tables.
func someBytes(r *rand.Rand) string {
	l := someRising(r)
	if r.Intn(3) == 0 {
		l = someList(r, 1+r.Intn(20))
	}
	size := 8
	if r.Intn(4) == 0 {
		size = 1 + r.Intn(10)
	}
	blocks := slices.Collect(slices.Chunk(l, size))
	if r.Intn(6) == 0 {
		r.Shuffle(len(blocks), func(i, j int) { blocks[i], blocks[j] = blocks[j], blocks[i] })
	}
	s := laid(blocks...)
	switch r.Intn(8) {
	case 0: // a byte is changed
		b := []byte(s)
		b[r.Intn(len(b))] ^= 1 << r.Intn(8)
		s = string(b)
	case 1: // bytes are left out
		from := r.Intn(len(s) + 1)
		s = s[:from] + s[min(len(s), from+r.Intn(9)):]
	case 2: // bytes come in
		at := r.Intn(len(s) + 1)
		s = s[:at] + []string{"\x00", frameOf(""), frameOf(packOf()), numOf(12), plainBuild(nil)}[r.Intn(5)] + s[at:]
	case 3: // the end tells another number
		s = s[:len(s)-8] + numOf(r.Intn(len(s)))
	}
	return s
}

// P6.1, P6.2: All of bytes that Build made, and of such that it didn't: what it takes is Build of what it answers.
func TestBackAndThere(t *testing.T) {
	r := rand.New(rand.NewSource(2))
	taken, refusals := 0, 0
	for range 8000 {
		s := someBytes(r)
		if !asTold(t, s) {
			refusals++
			if refusals%16 == 0 {
				refused(t, fmt.Sprintf("%.300q", s), s)
			}
			continue
		}
		taken++
		l, _ := table.All(s)
		if again, err := table.Build(l); again != s || err != api.OK {
			t.Fatalf("Build of All of %.300q: %.300q, %v", s, again, err)
		}
	}
	if taken < 1500 || refusals < 1500 {
		t.Errorf("%d tables were taken, %d refused", taken, refusals)
	}
}

// plainRange: the pairs from from on and below to, looked at one by one.
func plainRange(l []api.Pair, from, to string) []api.Pair {
	var out []api.Pair
	for _, p := range l {
		if p.Key >= from && p.Key < to {
			out = append(out, p)
		}
	}
	return out
}

// someKey: a key of the list, or close to one, or any text.
func someKey(r *rand.Rand, l []api.Pair) string {
	if len(l) == 0 || r.Intn(4) == 0 {
		return someText(r)
	}
	key := l[r.Intn(len(l))].Key
	switch r.Intn(4) {
	case 0:
		return key + "\x00"
	case 1:
		return key[:len(key)/2]
	}
	return key
}

// P6.3: Get tells just the pairs; ranges one behind the other are one range.
func TestAsked(t *testing.T) {
	r := rand.New(rand.NewSource(3))
	there, not, parts, wrong := 0, 0, 0, 0
	for range 800 {
		l := someRising(r)
		s, err := table.Build(l)
		if err != api.OK {
			t.Fatalf("Build of %.300q: %v", l, err)
		}
		for range 6 {
			key := someKey(r, l)
			i := slices.IndexFunc(l, func(p api.Pair) bool { return p.Key == key })
			want := ""
			if i >= 0 {
				want = l[i].Value
				there++
			} else {
				not++
			}
			if v, ok, err := table.Get(s, key); v != want || ok != (i >= 0) || err != api.OK {
				t.Fatalf("Get of %q: %q, %v, %v; want %q, %v", key, v, ok, err, want, i >= 0)
			}
		}
		ends := []string{someKey(r, l), someKey(r, l), someKey(r, l)}
		if ends[0] > ends[2] {
			wrong++
		}
		ranged(t, s, ends[0], ends[2], plainRange(l, ends[0], ends[2]))
		slices.Sort(ends)
		low, err := table.Range(s, ends[0], ends[1])
		high, err2 := table.Range(s, ends[1], ends[2])
		if err != api.OK || err2 != api.OK {
			t.Fatalf("Range by %q: %v, %v", ends, err, err2)
		}
		if len(low) > 0 && len(high) > 0 {
			parts++
		}
		ranged(t, s, ends[0], ends[2], append(low, high...))
	}
	if there < 1000 || not < 1000 || parts < 150 || wrong < 150 {
		t.Errorf("%d keys were there, %d not; %d ranges had two parts, %d lay the wrong way round", there, not, parts, wrong)
	}
}

// A room holds texts in bytes that can be changed behind the back of whoever kept one of them.
type room struct{ parts [][]byte }

func (m *room) text(s string) string {
	if s == "" {
		return ""
	}
	b := []byte(s)
	m.parts = append(m.parts, b)
	return unsafe.String(&b[0], len(b))
}

func (m *room) change() {
	for _, b := range m.parts {
		clear(b)
	}
}

// P6.1: a list that is handed in stays as it is, its spare room too, and none of it is kept.
func TestListHandedIn(t *testing.T) {
	for _, n := range []int{0, 1, 8, 9, 17, 1024} {
		var m room
		l := make([]api.Pair, 0, n+20)
		for _, p := range some(n) {
			l = append(l, pair(m.text(p.Key), m.text(p.Value)))
		}
		spare := l[n : n+20]
		for i := range spare {
			spare[i] = pair("spare", "room")
		}
		s, err := table.Build(l)
		if !slices.Equal(l, some(n)) || slices.ContainsFunc(spare, func(p api.Pair) bool { return p != pair("spare", "room") }) {
			t.Errorf("Build changed the list of %d pairs that was handed in", n)
		}
		m.change()
		clear(l)
		if s != plainBuild(some(n)) || err != api.OK {
			t.Errorf("Build of %d pairs, which were changed behind it: %d bytes, %v", n, len(s), err)
		}
	}
	l := swapped(20, 4)
	table.Build(l)
	if !slices.Equal(l, swapped(20, 4)) {
		t.Error("Build changed a list whose keys don't rise")
	}
}

// P6.1: of bytes that are handed in nothing is kept; each answer is memory of its own.
func TestBytesHandedIn(t *testing.T) {
	want := some(20)
	var m room
	s := m.text(plainBuild(want))
	all, err := table.All(s)
	some, err2 := table.Range(s, m.text("k00006"), m.text("k00030"))
	v, ok, err3 := table.Get(s, m.text("k00008"))
	if s != plainBuild(want) {
		t.Error("the bytes that were handed in were changed")
	}
	m.change()
	if !slices.Equal(all, want) || err != api.OK {
		t.Errorf("All of bytes that were changed behind it: %q, %v", all, err)
	}
	if !slices.Equal(some, want[3:15]) || err2 != api.OK {
		t.Errorf("Range of bytes that were changed behind it: %q, %v", some, err2)
	}
	if v != "v4" || !ok || err3 != api.OK {
		t.Errorf("Get from bytes that were changed behind it: %q, %v, %v", v, ok, err3)
	}
	s = plainBuild(want)
	all, _ = table.All(s)
	some, _ = table.Range(s, "", "l")
	clear(all)
	clear(some[:cap(some)])
	for range 2 {
		if again, err := table.All(s); !slices.Equal(again, want) || err != api.OK {
			t.Errorf("All once more: %q, %v", again, err)
		}
	}
}

// P6.1: several at one time.
func TestAtOneTime(t *testing.T) {
	want := some(100)
	done := make(chan string)
	for range 8 {
		go func() {
			s, _ := table.Build(want)
			l, _ := table.All(s)
			if !slices.Equal(l, want) {
				s = ""
			}
			done <- s
		}()
	}
	for range 8 {
		if s := <-done; s != plainBuild(want) {
			t.Errorf("one of eight made %d bytes", len(s))
		}
	}
}
