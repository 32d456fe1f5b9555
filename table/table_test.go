package table_test

import (
	"encoding/binary"
	"fmt"
	"hash/crc32"
	"slices"
	"strings"
	"testing"

	"levee/api"
	"levee/code"
	"levee/table"
)

// packOf, frameOf, numOf: as the words of chapter 1 tell them, of any length.
func packOf(fields ...string) string {
	b := binary.BigEndian.AppendUint32(nil, uint32(len(fields)))
	for _, f := range fields {
		b = append(binary.BigEndian.AppendUint32(b, uint32(len(f))), f...)
	}
	return string(b)
}

func frameOf(body string) string {
	length := binary.BigEndian.AppendUint32(nil, uint32(len(body)))
	sum := crc32.ChecksumIEEE([]byte(string(length) + body))
	return string(binary.BigEndian.AppendUint32(length, sum)) + body
}

func numOf(n int) string { return string(binary.BigEndian.AppendUint64(nil, uint64(n))) }

// blockOf: the frame of a block of just these pairs.
func blockOf(pairs ...api.Pair) string {
	var fields []string
	for _, p := range pairs {
		fields = append(fields, p.Key, p.Value)
	}
	return frameOf(packOf(fields...))
}

// closed: the frames, and behind them an index of these fields and its end.
func closed(frames string, index ...string) string {
	last := frameOf(packOf(index...))
	return frames + last + numOf(len(last))
}

// laid: the blocks as they are handed in, whatever their sizes and order, with an index and an end that fit them.
func laid(blocks ...[]api.Pair) string {
	var frames strings.Builder
	var index []string
	for _, b := range blocks {
		index = append(index, b[0].Key, numOf(frames.Len()))
		frames.WriteString(blockOf(b...))
	}
	return closed(frames.String(), index...)
}

// eights: the blocks that a table of the pairs has.
func eights(pairs []api.Pair) [][]api.Pair { return slices.Collect(slices.Chunk(pairs, 8)) }

// plainBuild: the table as the chapter's words tell it, of pairs that may be.
func plainBuild(pairs []api.Pair) string { return laid(eights(pairs)...) }

func pair(key, value string) api.Pair { return api.Pair{Key: key, Value: value} }

// some: n rising pairs of short keys and values.
func some(n int) []api.Pair {
	var l []api.Pair
	for i := range n {
		l = append(l, pair(fmt.Sprintf("k%05d", 2*i), fmt.Sprintf("v%d", i)))
	}
	return l
}

// built: the pairs must make just this table, and the table these pairs.
func built(t *testing.T, name string, pairs []api.Pair, want string) {
	t.Helper()
	s, err := table.Build(pairs)
	if s != want || err != api.OK {
		t.Errorf("Build of %s: %d bytes %.80q, %v; want %d bytes %.80q", name, len(s), s, err, len(want), want)
	}
	l, err := table.All(want)
	if !slices.Equal(l, pairs) || err != api.OK {
		t.Errorf("All of the table of %s: %d pairs, %v; want %d", name, len(l), err, len(pairs))
	}
}

// unbuilt: Build must refuse the pairs.
func unbuilt(t *testing.T, name string, pairs []api.Pair, want api.Errno) {
	t.Helper()
	if s, err := table.Build(pairs); s != "" || err != want {
		t.Errorf("Build of %s: %d bytes, %v; want %v", name, len(s), err, want)
	}
}

// refused: each call must refuse the bytes.
func refused(t *testing.T, name, s string) {
	t.Helper()
	if l, err := table.All(s); len(l) != 0 || err != api.ErrTable {
		t.Errorf("All of %s: %d pairs, %v", name, len(l), err)
	}
	for _, key := range []string{"", "a", "k00000", "z"} {
		if v, ok, err := table.Get(s, key); v != "" || ok || err != api.ErrTable {
			t.Errorf("Get of %q from %s: %q, %v, %v", key, name, v, ok, err)
		}
		for _, to := range []string{key, "", "b", "z\xff"} {
			if l, err := table.Range(s, key, to); len(l) != 0 || err != api.ErrTable {
				t.Errorf("Range from %q to %q of %s: %d pairs, %v", key, to, name, len(l), err)
			}
		}
	}
}

// P6.1: the chapter's examples.
func TestExamples(t *testing.T) {
	frame, _ := code.Frame("\x00\x00\x00\x00")
	for _, none := range [][]api.Pair{nil, {}} {
		built(t, "none", none, frame+"\x00\x00\x00\x00\x00\x00\x00\x0c")
	}
	if l, err := table.All(""); len(l) != 0 || err != api.ErrTable {
		t.Errorf("All of nothing: %q, %v", l, err)
	}
	if s, err := table.Build([]api.Pair{pair("b", ""), pair("a", "")}); s != "" || err != api.ErrArg {
		t.Errorf("Build of b, a: %q, %v", s, err)
	}
}

// P6.1, P6.2: tables written out, byte by byte.
func TestBytes(t *testing.T) {
	block := "\x00\x00\x00\x02" + "\x00\x00\x00\x01a" + "\x00\x00\x00\x02bc"
	index := "\x00\x00\x00\x02" + "\x00\x00\x00\x01a" + "\x00\x00\x00\x08\x00\x00\x00\x00\x00\x00\x00\x00"
	built(t, "a", []api.Pair{pair("a", "bc")},
		"\x00\x00\x00\x0f"+frameOf(block)[4:8]+block+
			"\x00\x00\x00\x15"+frameOf(index)[4:8]+index+
			"\x00\x00\x00\x00\x00\x00\x00\x1d")

	first, second := "\x00\x00\x00\x10", "\x00\x00\x00\x02"
	for i := range 8 {
		first += "\x00\x00\x00\x01" + string(rune('a'+i)) + "\x00\x00\x00\x00"
	}
	second += "\x00\x00\x00\x01i\x00\x00\x00\x01!"
	// The first frame is 8 + 4 + 8 * 9 bytes long, base sixteen 54: there the second one begins.
	index = "\x00\x00\x00\x04" + "\x00\x00\x00\x01a" + "\x00\x00\x00\x08" + "\x00\x00\x00\x00\x00\x00\x00\x00" +
		"\x00\x00\x00\x01i" + "\x00\x00\x00\x08" + "\x00\x00\x00\x00\x00\x00\x00\x54"
	var nine []api.Pair
	for _, k := range strings.Split("abcdefgh", "") {
		nine = append(nine, pair(k, ""))
	}
	built(t, "nine", append(nine, pair("i", "!")), frameOf(first)+frameOf(second)+frameOf(index)+"\x00\x00\x00\x00\x00\x00\x00\x2e")
}

// P6.1, P6.2: lists that may be, and how many frames their tables have.
func TestBuild(t *testing.T) {
	for n, frames := range map[int]int{0: 1, 1: 2, 2: 2, 7: 2, 8: 2, 9: 3, 15: 3, 16: 3, 17: 4, 100: 14, 1016: 128, 1017: 129, 1023: 129, 1024: 129} {
		l := some(n)
		built(t, fmt.Sprint(n, " pairs"), l, plainBuild(l))
		s, _ := table.Build(l)
		if bodies, size := code.Scan(s); len(bodies) != frames || size != len(s)-8 {
			t.Errorf("the table of %d pairs has %d frames in %d of %d bytes, want %d", n, len(bodies), size, len(s), frames)
		}
	}
	for name, l := range map[string][]api.Pair{
		"an empty key":        {pair("", "")},
		"an empty key, ahead": {pair("", "x"), pair("\x00", "y"), pair("\x00\x00", "z")},
		"any bytes":           {pair("\x00\xff", "\xff\xfe\n"), pair("a", ""), pair("a\x00", "\x00"), pair("ab", "a"), pair("b", "b"), pair("\x7f", "-"), pair("\x80", "-"), pair("ä", "ö"), pair("\xff", ""), pair("\xff\xff", "")},
		"longer and shorter":  {pair("aaaa", ""), pair("ab", ""), pair("b", "")},
		"capitals":            {pair("A", ""), pair("B", ""), pair("a", "")},
		"frames as values":    {pair("a", frameOf("")), pair("b", plainBuild(some(9))), pair(plainBuild(nil)+"c", "")},
	} {
		slices.SortFunc(l, func(p, q api.Pair) int { return strings.Compare(p.Key, q.Key) })
		built(t, name, l, plainBuild(l))
	}
}

// swapped: n rising pairs, of which those at i and i+1 are changed about.
func swapped(n, i int) []api.Pair {
	l := some(n)
	l[i], l[i+1] = l[i+1], l[i]
	return l
}

// doubled: n rising pairs, of which the one at i+1 has the key of the one at i.
func doubled(n, i int) []api.Pair {
	l := some(n)
	l[i+1].Key = l[i].Key
	return l
}

// P6.1: lists that are refused, and which error comes first.
func TestBuildRefuses(t *testing.T) {
	unbuilt(t, "just one more than MaxPairs", some(1025), api.ErrLong)
	unbuilt(t, "far more than MaxPairs", some(5000), api.ErrLong)
	unbuilt(t, "more than MaxPairs of nothing", make([]api.Pair, 1025), api.ErrLong)
	unbuilt(t, "MaxPairs of nothing", make([]api.Pair, 1024), api.ErrArg)
	unbuilt(t, "two empty keys", make([]api.Pair, 2), api.ErrArg)
	for _, n := range []int{2, 8, 9, 10, 16, 17, 1024} {
		for _, i := range []int{0, 3, 6, 7, 8, n - 2} {
			if i > n-2 {
				continue
			}
			unbuilt(t, fmt.Sprintf("%d pairs, %d and the next one changed about", n, i), swapped(n, i), api.ErrArg)
			unbuilt(t, fmt.Sprintf("%d pairs, %d and the next one of one key", n, i), doubled(n, i), api.ErrArg)
		}
	}
	unbuilt(t, "one key behind many others again", append(some(20), some(1)...), api.ErrArg)
	unbuilt(t, "one key, two values", []api.Pair{pair("a", "1"), pair("a", "2")}, api.ErrArg)
	unbuilt(t, "one key, the same value", []api.Pair{pair("a", "1"), pair("a", "1")}, api.ErrArg)
	unbuilt(t, "a longer key ahead", []api.Pair{pair("a\x00", ""), pair("a", "")}, api.ErrArg)
	unbuilt(t, "a byte above 127 ahead", []api.Pair{pair("\x80", ""), pair("\x7f", "")}, api.ErrArg)

	long := strings.Repeat("x", 1<<16+1)
	l := swapped(1025, 1)
	l[0].Value = long
	unbuilt(t, "too many that don't rise", l, api.ErrLong)
	for _, at := range []int{0, 8, 19} {
		l = swapped(20, 10)
		l[at].Value = long
		unbuilt(t, fmt.Sprint("keys that don't rise, and a value that is too long at ", at), l, api.ErrArg)
	}
	unbuilt(t, "keys that don't rise, and are too long", []api.Pair{pair(long, ""), pair("a", "")}, api.ErrArg)
}

// P6.1, P6.2: a block of just as many bytes as a frame has room for, and one more.
func TestLongBlocks(t *testing.T) {
	// A block of one pair has 12 bytes beside its key and its value, one of eight 68.
	for name, l := range map[string]func(n int) []api.Pair{
		"a value alone":          func(n int) []api.Pair { return []api.Pair{pair("", strings.Repeat("v", n-12))} },
		"key and value":          func(n int) []api.Pair { return []api.Pair{pair("key", strings.Repeat("v", n-15))} },
		"eight pairs":            func(n int) []api.Pair { return grown(some(8), 0, n) },
		"the last of eight":      func(n int) []api.Pair { return grown(some(8), 7, n) },
		"the second block":       func(n int) []api.Pair { return grown(some(16), 12, n) },
		"the last block, of one": func(n int) []api.Pair { return grown(some(17), 16, n) },
		"a block amid others":    func(n int) []api.Pair { return grown(some(24), 8, n) },
	} {
		fits := l(1 << 16)
		built(t, name+", which just fits", fits, plainBuild(fits))
		unbuilt(t, name+", one byte more", l(1<<16+1), api.ErrLong)
		unbuilt(t, name+", far more", l(1<<18), api.ErrLong)
		refused(t, name+", one byte more, laid down", plainBuild(l(1<<16+1)))
	}
	for _, n := range []int{1<<16 - 1, 1 << 16, 1<<16 + 1, 1 << 20, 1<<20 + 1} {
		long := strings.Repeat("x", n)
		for _, l := range [][]api.Pair{
			{pair("a", long)}, {pair(long, "")}, {pair("a", ""), pair("b", long)}, {pair("a", ""), pair(long, "")}, append(some(8), pair("x", long)), append(some(8), pair(long, "")),
		} {
			unbuilt(t, fmt.Sprintf("%d pairs, a field of %d bytes", len(l), n), l, api.ErrLong)
			refused(t, fmt.Sprintf("%d pairs, a field of %d bytes", len(l), n), plainBuild(l))
		}
	}
}

// grown: the pairs, of which the one at i has such a value that its block has n bytes.
func grown(l []api.Pair, i, n int) []api.Pair {
	l[i].Value = ""
	from := i - i%8
	for _, p := range l[from:min(from+8, len(l))] {
		n -= 8 + len(p.Key) + len(p.Value)
	}
	l[i].Value = strings.Repeat("v", n-4)
	return l
}

// P6.1, P6.2: an index of just as many bytes as a frame has room for, and one more.
func TestLongIndex(t *testing.T) {
	// The index has 4 bytes, and for each block 16 beside its first key: the first keys make it as long as it is wanted.
	list := func(blocks, size int) []api.Pair {
		l := some(8 * blocks)
		size -= 4 + 16*blocks
		for b := range blocks {
			n := size / (blocks - b)
			size -= n
			l[8*b].Key += strings.Repeat("\x00", n-len(l[8*b].Key))
		}
		return l
	}
	for _, blocks := range []int{2, 3, 100, 128} {
		fits := list(blocks, 1<<16)
		built(t, fmt.Sprint(blocks, " blocks, whose index just fits"), fits, plainBuild(fits))
		more := list(blocks, 1<<16+1)
		unbuilt(t, fmt.Sprint(blocks, " blocks, one byte more"), more, api.ErrLong)
		refused(t, fmt.Sprint(blocks, " blocks, one byte more, laid down"), plainBuild(more))
		unbuilt(t, fmt.Sprint(blocks, " blocks, far more"), list(blocks, 1<<17-200), api.ErrLong)
	}
	// A block of one pair whose key leaves no room in the index, but just in the block.
	for keyLen, want := range map[int]api.Errno{1<<16 - 20: api.OK, 1<<16 - 19: api.ErrLong, 1<<16 - 12: api.ErrLong} {
		l := []api.Pair{pair(strings.Repeat("k", keyLen), "")}
		if want != api.OK {
			unbuilt(t, fmt.Sprint("a key of ", keyLen, " bytes"), l, want)
			refused(t, fmt.Sprint("a key of ", keyLen, " bytes"), plainBuild(l))
			continue
		}
		built(t, fmt.Sprint("a key of ", keyLen, " bytes"), l, plainBuild(l))
	}
}

// ofSize: pairs in so many blocks, whose table has just size bytes.
func ofSize(blocks, size int) []api.Pair {
	l := some(8 * blocks)
	left := size - len(plainBuild(l))
	for b := range blocks {
		n := left / (blocks - b)
		left -= n
		l[8*b+3].Value += strings.Repeat("v", n)
	}
	return l
}

// P6.1, P6.2: a table of just MaxBytes bytes, and above.
func TestLongTable(t *testing.T) {
	for _, blocks := range []int{17, 40, 128} {
		for size, want := range map[int]api.Errno{1<<20 - 1: api.OK, 1 << 20: api.OK, 1<<20 + 1: api.ErrLong, 1<<20 + 2: api.ErrLong, 1<<20 + 8: api.ErrLong, 1<<20 + 9: api.ErrLong, 1<<20 + 5000: api.ErrLong} {
			l := ofSize(blocks, size)
			s := plainBuild(l)
			if len(s) != size {
				t.Fatalf("the pairs make a table of %d bytes, not of %d", len(s), size)
			}
			if want != api.OK {
				unbuilt(t, fmt.Sprint(blocks, " blocks in ", size, " bytes"), l, want)
				refused(t, fmt.Sprint(blocks, " blocks in ", size, " bytes"), s)
				continue
			}
			built(t, fmt.Sprint(blocks, " blocks in ", size, " bytes"), l, s)
			last := l[len(l)-1]
			if v, ok, err := table.Get(s, last.Key); v != last.Value || !ok || err != api.OK {
				t.Errorf("Get of the last key of %d blocks in %d bytes: %.20q, %v, %v", blocks, size, v, ok, err)
			}
		}
	}
	// Of all that MaxPairs pairs could hold, far more than a table may.
	l := some(1024)
	for i := range l {
		l[i].Value = strings.Repeat("v", 8000)
	}
	unbuilt(t, "eight times MaxBytes", l, api.ErrLong)
	refused(t, "eight times MaxBytes", plainBuild(l))
}

// P6.1, P6.3: Get of keys, and of what is none.
func TestGet(t *testing.T) {
	got := func(s, key, want string, there bool) {
		t.Helper()
		if v, ok, err := table.Get(s, key); v != want || ok != there || err != api.OK {
			t.Errorf("Get of %q: %q, %v, %v; want %q, %v", key, v, ok, err, want, there)
		}
	}
	none, _ := table.Build(nil)
	for _, key := range []string{"", "a", "\xff", strings.Repeat("k", 1<<17)} {
		got(none, key, "", false)
	}
	for _, n := range []int{1, 7, 8, 9, 16, 17, 1024} {
		l := some(n)
		s, _ := table.Build(l)
		for i, p := range l {
			if n == 1024 && i%37 != 0 && i < 1000 {
				continue
			}
			got(s, p.Key, p.Value, true)
			got(s, fmt.Sprintf("k%05d", 2*i+1), "", false)
			got(s, p.Key+"\x00", "", false)
			got(s, p.Key[:len(p.Key)-1], "", false)
			got(s, strings.ToUpper(p.Key), "", false)
		}
		for _, key := range []string{"", "\x00", "k", "k00000x", "l", "\xff\xff", strings.Repeat("k", 1<<17)} {
			got(s, key, "", false)
		}
	}
	s, _ := table.Build([]api.Pair{pair("", "nothing"), pair("\x00", ""), pair("a", "b"), pair("b", "a")})
	got(s, "", "nothing", true)
	got(s, "\x00", "", true)
	got(s, "a", "b", true)
	got(s, "b", "a", true)
	got(s, "\x00\x00", "", false)
}

// ranged: Range must answer just these pairs.
func ranged(t *testing.T, s, from, to string, want []api.Pair) {
	t.Helper()
	if l, err := table.Range(s, from, to); !slices.Equal(l, want) || err != api.OK {
		t.Errorf("Range from %q to %q: %d pairs, %v; want %d", from, to, len(l), err, len(want))
	}
}

// P6.1, P6.3: Range, whose ends are keys, are none, are the same, or lie the wrong way round.
func TestRange(t *testing.T) {
	l := some(20) // k00000, k00002 ..
	s, _ := table.Build(l)
	for _, c := range []struct {
		from, to string
		want     []api.Pair
	}{
		{"k00000", "k00004", l[:2]},
		{"k00004", "k00022", l[2:11]},
		{"k00014", "k00016", l[7:8]},
		{"k00016", "k00032", l[8:16]},
		{"k00000", "k00038", l[:19]},
		{"k00001", "k00005", l[1:3]},
		{"k00001", "k00003", l[1:2]},
		{"k00001", "k00002", nil},
		{"k00002", "k00003", l[1:2]},
		{"k00015", "k00017", l[8:9]},
		{"k00000\x00", "k00002\x00", l[1:2]},
		{"k00000", "k00000\x00", l[:1]},
		{"", "\xff", l},
		{"", "l", l},
		{"k", "k00039", l},
		{"", "k00000", nil},
		{"", "k", nil},
		{"", "", nil},
		{"k00038", "\xff", l[19:]},
		{"k00039", "\xff", nil},
		{"l", "m", nil},
		{"\xff", "\xff\xff", nil},
		{"k00004", "k00004", nil},
		{"k00005", "k00005", nil},
		{"k00038", "k00038", nil},
		{"k00004", "k00002", nil},
		{"k00005", "k00001", nil},
		{"k00022", "k00000", nil},
		{"k00038", "", nil},
		{"\xff", "", nil},
		{"k00039", "k00000", nil},
	} {
		ranged(t, s, c.from, c.to, c.want)
	}
	none, _ := table.Build(nil)
	ranged(t, none, "", "\xff", nil)
	ranged(t, none, "\xff", "", nil)
	empty, _ := table.Build([]api.Pair{pair("", "x"), pair("\x00", "y")})
	ranged(t, empty, "", "\x00", []api.Pair{pair("", "x")})
	ranged(t, empty, "", "\x00\x00", []api.Pair{pair("", "x"), pair("\x00", "y")})
	ranged(t, empty, "", "", nil)
	all := some(1024)
	whole, _ := table.Build(all)
	ranged(t, whole, "", "l", all)
	ranged(t, whole, "k00500", "k01500", all[250:750])
}

// P6.1, P6.2: bytes that no Build made, of blocks that it doesn't write.
func TestOtherBlocks(t *testing.T) {
	l := some(20)
	for name, blocks := range map[string][][]api.Pair{
		"a block of nine":             {l[:9], l[9:17]},
		"one block of nine":           {l[:9]},
		"one block of twenty":         {l},
		"a short block first":         {l[:7], l[7:15]},
		"a short block amid others":   {l[:8], l[8:15], l[15:20]},
		"blocks of one":               {l[:1], l[1:2]},
		"blocks changed about":        {l[8:16], l[:8]},
		"the last block first":        {l[16:], l[:8], l[8:16]},
		"a block twice":               {l[:8], l[:8]},
		"the last block twice":        {l[:8], l[8:11], l[8:11]},
		"a block that goes back":      {l[:8], l[7:15]},
		"keys changed about":          {swapped(8, 3)},
		"a key twice":                 {doubled(8, 3)},
		"one key, and one value":      {{l[0], l[0]}},
		"a key twice, in two blocks":  eights(doubled(16, 7)),
		"keys changed about, in two":  eights(swapped(16, 7)),
		"one pair more than MaxPairs": eights(some(1025)),
		"far more than MaxPairs":      eights(some(3000)),
		"MaxPairs changed about":      eights(swapped(1024, 1022)),
	} {
		refused(t, name, laid(blocks...))
	}
	none, a := frameOf(packOf()), pair("a", "x")
	one := blockOf(a)
	for name, s := range map[string]string{
		"a block of none":                     closed(none),
		"a block of none ahead":               closed(none+one, "a", numOf(12)),
		"a block of none ahead, in the index": closed(none+one, "", numOf(0), "a", numOf(12)),
		"a block of none behind":              closed(one+none, "a", numOf(0)),
		"a key without a value":               closed(frameOf(packOf("a")), "a", numOf(0)),
		"three fields":                        closed(frameOf(packOf("a", "x", "b")), "a", numOf(0)),
		"seventeen fields":                    closed(frameOf(packOf(slices.Repeat([]string{"a"}, 17)...)), "a", numOf(0)),
		"fields beyond the block's end":       closed(frameOf(packOf("a", "x")[:13]), "a", numOf(0)),
		"bytes behind the fields":             closed(frameOf(packOf("a", "x")+"!"), "a", numOf(0)),
		"a block that is no Pack":             closed(frameOf("ax"), "a", numOf(0)),
		"an empty frame":                      closed(frameOf("")+one, "a", numOf(8)),
		"an empty frame behind":               closed(one+frameOf(""), "a", numOf(0)),
		"bytes ahead of the block":            closed("!"+one, "a", numOf(1)),
		"bytes behind the block":              closed(one+"!", "a", numOf(0)),
		"a block without a frame":             closed(packOf("a", "x"), "a", numOf(0)),
		"a block with a wrong sum":            closed(strings.Replace(one, "x", "y", 1), "a", numOf(0)),
		"a frame in a frame":                  closed(frameOf(one), "a", numOf(0)),
	} {
		refused(t, name, s)
	}
	built(t, "what these were made of", []api.Pair{a}, closed(one, "a", numOf(0)))
}

// P6.1, P6.2: bytes that no Build made: an index or an end that isn't the table's own, bytes too few or too many.
func TestOtherEnds(t *testing.T) {
	l := some(11)
	first, second := blockOf(l[:8]...), blockOf(l[8:]...)
	frames, k, m := first+second, l[0].Key, l[8].Key
	own := plainBuild(l)
	built(t, "what these are made of", l, closed(frames, k, numOf(0), m, numOf(len(first))))
	for name, s := range map[string]string{
		"an empty index":                      closed(frames),
		"an index of the first block alone":   closed(frames, k, numOf(0)),
		"an index of the second block alone":  closed(frames, m, numOf(len(first))),
		"an index of one block more":          closed(frames, k, numOf(0), m, numOf(len(first)), l[10].Key, numOf(len(frames))),
		"an index with a block twice":         closed(frames, k, numOf(0), k, numOf(0), m, numOf(len(first))),
		"an index changed about":              closed(frames, m, numOf(len(first)), k, numOf(0)),
		"places changed about":                closed(frames, k, numOf(len(first)), m, numOf(0)),
		"keys changed about":                  closed(frames, m, numOf(0), k, numOf(len(first))),
		"places ahead of their keys":          closed(frames, numOf(0), k, numOf(len(first)), m),
		"another key first":                   closed(frames, l[1].Key, numOf(0), m, numOf(len(first))),
		"a block's last key":                  closed(frames, k, numOf(0), l[10].Key, numOf(len(first))),
		"an empty key":                        closed(frames, k, numOf(0), "", numOf(len(first))),
		"a place one too far":                 closed(frames, k, numOf(0), m, numOf(len(first)+1)),
		"a place one too near":                closed(frames, k, numOf(0), m, numOf(len(first)-1)),
		"a first place that isn't 0":          closed(frames, k, numOf(8), m, numOf(len(first))),
		"the number of a block for its place": closed(frames, k, numOf(0), m, numOf(1)),
		"a place behind the frame's head":     closed(frames, k, numOf(8), m, numOf(len(first)+8)),
		"a place in short":                    closed(frames, k, numOf(0), m, numOf(len(first))[4:]),
		"a place of nine bytes":               closed(frames, k, numOf(0), m, "\x00"+numOf(len(first))),
		"a place without its last byte":       closed(frames, k, numOf(0), m, numOf(len(first))[:7]),
		"a key without a place":               closed(frames, k, numOf(0), m),
		"a field more":                        closed(frames, k, numOf(0), m, numOf(len(first)), ""),
		"an index with values":                closed(frames, k, l[0].Value, m, l[8].Value),
		"no index":                            frames + numOf(0),
		"no index, the end of a block":        frames + numOf(len(second)),
		"the index twice":                     own[:len(own)-8] + own[len(frames):],
		"the index first":                     own[len(frames):len(own)-8] + frames + own[len(own)-8:],
		"the index amid the blocks":           first + own[len(frames):len(own)-8] + second + own[len(own)-8:],
		"a value under another's sum":         strings.Replace(own, l[10].Value, "v1?", 1),
		"a shorter block":                     blockOf(l[:7]...) + own[len(first):],
		"blocks that fit, in another order":   closed(second+first, m, numOf(0), k, numOf(len(second))),
		"no end":                              own[:len(own)-8],
		"half an end":                         own[:len(own)-4],
		"an end in short":                     own[:len(own)-8] + own[len(own)-4:],
		"an end of 0":                         own[:len(own)-8] + numOf(0),
		"an end one too long":                 own[:len(own)-8] + numOf(len(own)-8-len(frames)+1),
		"an end one too short":                own[:len(own)-8] + numOf(len(own)-8-len(frames)-1),
		"the index' place for an end":         own[:len(own)-8] + numOf(len(frames)),
		"the index' bytes without its head":   own[:len(own)-8] + numOf(len(own)-16-len(frames)),
		"the whole length for an end":         own[:len(own)-8] + numOf(len(own)),
		"a great end":                         own[:len(own)-8] + "\xff\xff\xff\xff\xff\xff\xff\xff",
		"an end that is right below 2^32":     own[:len(own)-8] + "\x00\x00\x00\x01" + own[len(own)-4:],
		"an end that is right below 2^63":     own[:len(own)-8] + "\x80" + own[len(own)-7:],
		"the end turned":                      own[:len(own)-8] + string([]byte{own[len(own)-1], 0, 0, 0, 0, 0, 0, 0}),
		"the end twice":                       own + own[len(own)-8:],
		"an empty frame behind the index":     own[:len(own)-8] + frameOf("") + own[len(own)-8:],
		"an empty frame for an end":           own[:len(own)-8] + frameOf(""),
		"a byte behind the end":               own + "\x00",
		"a byte ahead of the end":             own[:len(own)-8] + "\x00" + own[len(own)-8:],
		"a byte ahead of all":                 "\x00" + own,
		"eight bytes behind the end":          own + numOf(0),
		"a frame behind the end":              own + frameOf("a"),
		"the table twice":                     own + own,
		"an empty table ahead":                plainBuild(nil) + own,
		"an empty table behind":               own + plainBuild(nil),
		"many bytes behind the end":           own + strings.Repeat("\x00", 1<<21),
		"without its first byte":              own[1:],
		"without its last byte":               own[:len(own)-1],
		"without its first block":             own[len(first):],
	} {
		refused(t, name, s)
	}
	for n := range len(own) {
		refused(t, fmt.Sprint("its first ", n, " bytes"), own[:n])
	}
}

// P6.1: bytes that are of no form at all.
func TestNoTable(t *testing.T) {
	for _, n := range []int{0, 1, 7, 8, 9, 15, 16, 19, 20, 21, 24, 100, 1<<20 - 1, 1 << 20, 1<<20 + 1, 1 << 24} {
		for _, b := range []string{"\x00", "\xff", "a", "\x01"} {
			refused(t, fmt.Sprintf("%d bytes %q", n, b), strings.Repeat(b, n))
		}
	}
	refused(t, "MaxBytes of empty frames", strings.Repeat(frameOf(""), 1<<17))
	refused(t, "MaxBytes of empty tables' frames", strings.Repeat(frameOf(packOf()), 1<<16))
	refused(t, "a frame alone", frameOf("a"))
	refused(t, "an end alone", numOf(0))
	refused(t, "an end of eight alone", numOf(8))
	refused(t, "an empty table without its frame's head", packOf()+numOf(4))
	refused(t, "an empty frame and its end", frameOf("")+numOf(8))
	refused(t, "an empty table with an index of a block", closed("", "a", numOf(0)))
	refused(t, "an empty table with an index of one field", closed("", ""))
}

// heads: the places of the length bytes of a table's frames.
func heads(s string) map[int]bool {
	at := map[int]bool{}
	for i := 0; i < len(s)-8; {
		for k := range 4 {
			at[i+k] = true
		}
		i += 8 + int(binary.BigEndian.Uint32([]byte(s[i:])))
	}
	return at
}

// P6.4: each byte of a table, changed in each way.
func TestOneByte(t *testing.T) {
	for _, n := range []int{0, 1, 8, 9, 19} {
		s, _ := table.Build(some(n))
		lengths := heads(s)
		if want := 4 * ((n+7)/8 + 1); len(lengths) != want {
			t.Fatalf("the table of %d pairs has %d length bytes, want %d", n, len(lengths), want)
		}
		b := []byte(s)
		for at := range b {
			for by := 1; by < 256; by++ {
				b[at] ^= byte(by)
				if lengths[at] {
					// It asks for a frame of other bytes, whose sum might fit; All has to answer for these bytes alone.
					asTold(t, string(b))
				} else if l, err := table.All(string(b)); len(l) != 0 || err != api.ErrTable {
					t.Fatalf("byte %d of the table of %d pairs by %d: %d pairs, %v", at, n, by, len(l), err)
				}
				b[at] = s[at]
			}
			b[at]++
			if !lengths[at] {
				refused(t, fmt.Sprintf("byte %d of the table of %d pairs", at, n), string(b))
			}
			b[at] = s[at]
		}
	}
	long, _ := table.Build(ofSize(128, 1<<20))
	lengths := heads(long)
	b := []byte(long)
	for at := 0; at < len(b); at += 6007 {
		if !lengths[at] {
			b[at]++
			if l, err := table.All(string(b)); len(l) != 0 || err != api.ErrTable {
				t.Fatalf("byte %d of a table of MaxBytes: %d pairs, %v", at, len(l), err)
			}
			b[at] = long[at]
		}
	}
}
