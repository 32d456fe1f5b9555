package lsm_test

import (
	"fmt"
	"math"
	"slices"
	"testing"

	"levee/api"
	"levee/disk"
	"levee/lsm"
)

// P7.1: the chapter's examples.
func TestExamples(t *testing.T) {
	s, ops := did(t, api.Store{}, open)
	if !same(s, api.Store{}) || len(ops) != 0 {
		t.Errorf("Open of an empty disk: %s, %s", told(s), toldOps(ops))
	}
	holds(t, "an empty disk", s)
	one := frames(record(set("a", "1")))
	s, ops = did(t, s, write(set("a", "1")))
	if !slices.Equal(ops, plan(appendOp("waaaaa.000000", one))) {
		t.Errorf("Write of a = 1: %s", toldOps(ops))
	}
	holds(t, "behind Write", s, pair("a", "1"))
	text := tabled(pair("a", "p1"))
	s, ops = did(t, s, lsm.Flush)
	want := plan(appendOp("t.000000", text), syncOp("t.000000"),
		appendOp("m.000000", marked("tt.000000")), syncOp("m.000000"), dropOp("waaaaa.000000"))
	if !slices.Equal(ops, want) {
		t.Errorf("Flush: %s, want %s", toldOps(ops), toldOps(want))
	}
	if want := (api.Store{Disk: of(kept("m.000000", marked("tt.000000")), kept("t.000000", text)), Tables: []string{"t.000000"}, Gen: 1, Marks: 1}); !same(s, want) {
		t.Errorf("behind Flush: %s, want %s", told(s), told(want))
	}
	holds(t, "behind Flush", s, pair("a", "1"))
}

// P7.1: a record of a log written out, byte by byte.
func TestRecordBytes(t *testing.T) {
	body := "\x00\x00\x00\x06" + "\x00\x00\x00\x01p" + "\x00\x00\x00\x02bc" + "\x00\x00\x00\x03xyz" +
		"\x00\x00\x00\x01d" + "\x00\x00\x00\x01a" + "\x00\x00\x00\x00"
	l := batch(set("bc", "xyz"), gone("a"))
	is(t, "Write", api.Store{}, write(l...),
		api.Store{Disk: of(loose("waaaaa.000000", frames(body))), Mem: batch(gone("a"), set("bc", "xyz"))},
		plan(appendOp("waaaaa.000000", frames(body))))
	mark := "\x00\x00\x00\x02" + "\x00\x00\x00\x01t" + "\x00\x00\x00\x08t.000000"
	text := tabled(pair("a", "d"), pair("bc", "pxyz"))
	is(t, "Flush", done(t, api.Store{}, write(l...)), lsm.Flush,
		api.Store{Disk: of(kept("m.000000", frames(mark)), kept("t.000000", text)), Tables: []string{"t.000000"}, Gen: 1, Marks: 1},
		plan(appendOp("t.000000", text), syncOp("t.000000"), appendOp("m.000000", frames(mark)), syncOp("m.000000"), dropOp("waaaaa.000000")))
}

// P7.1: what a Write makes of Mem: rising, the later change of a key counting.
func TestWriteMem(t *testing.T) {
	base := done(t, api.Store{}, write(set("b", "1"), set("d", "2")))
	for name, c := range map[string]struct{ batch, mem []api.Change }{
		"ahead":              {batch(set("a", "x")), batch(set("a", "x"), set("b", "1"), set("d", "2"))},
		"between":            {batch(set("c", "")), batch(set("b", "1"), set("c", ""), set("d", "2"))},
		"behind":             {batch(set("dd", "x")), batch(set("b", "1"), set("d", "2"), set("dd", "x"))},
		"unordered":          {batch(set("z", "1"), set("c", "2"), set("a", "3")), batch(set("a", "3"), set("b", "1"), set("c", "2"), set("d", "2"), set("z", "1"))},
		"again":              {batch(set("b", "x")), batch(set("b", "x"), set("d", "2"))},
		"gone":               {batch(gone("b")), batch(gone("b"), set("d", "2"))},
		"gone, never there":  {batch(gone("c")), batch(set("b", "1"), gone("c"), set("d", "2"))},
		"twice":              {batch(set("c", "x"), set("c", "y")), batch(set("b", "1"), set("c", "y"), set("d", "2"))},
		"twice, around one":  {batch(set("c", "x"), set("a", "-"), set("c", "")), batch(set("a", "-"), set("b", "1"), set("c", ""), set("d", "2"))},
		"gone, then anew":    {batch(gone("b"), set("b", "z")), batch(set("b", "z"), set("d", "2"))},
		"anew, then gone":    {batch(set("b", "z"), gone("b")), batch(gone("b"), set("d", "2"))},
		"there, gone, there": {batch(set("e", "1"), gone("e"), set("e", "2")), batch(set("b", "1"), set("d", "2"), set("e", "2"))},
		"any bytes":          {batch(set("\xff\x00", "\x00\xfe"), set("\x00", "p"), set("B", "d")), batch(set("\x00", "p"), set("B", "d"), set("b", "1"), set("d", "2"), set("\xff\x00", "\x00\xfe"))},
	} {
		op := appendOp(segment(0), logged(c.batch))
		want := base
		want.Mem = c.mem
		want.Disk = of(loose(segment(0), base.Disk.Files[0].Loose+op.Bytes))
		is(t, name, base, write(c.batch...), want, plan(op))
		again, _ := did(t, want, open)
		if !same(again, want) {
			t.Errorf("%s: Open: %s, want %s", name, told(again), told(want))
		}
	}
	anew := done(t, base, write(gone("b")), write(set("b", "4")), write(gone("d")))
	holds(t, "written, gone, written anew", anew, pair("b", "4"))
	lacks(t, "written, gone, written anew", anew, "d")
}

// P7.1: batches at the limits, and which error comes first beyond them.
func TestBatches(t *testing.T) {
	long, longer := set("k", sized(4096)), set("k", sized(4097))
	for name, l := range map[string][]api.Change{
		"one":               many(0, 1),
		"64 changes":        many(0, 64),
		"64 of one key":     slices.Repeat(batch(set("a", "b")), 64),
		"a key of one":      batch(set("\x00", "")),
		"a key of 64":       batch(set(sized(64), "x")),
		"a gone key of 64":  batch(gone(sized(64))),
		"a value of 4096":   batch(long),
		"no value":          batch(set("k", "")),
		"gone":              batch(gone("k")),
		"a value of p":      batch(set("p", "p"), set("d", "d")),
		"15 of the longest": slices.Repeat(batch(set(sized(64), sized(4096))), 15),
	} {
		s, ops := did(t, api.Store{}, write(l...))
		if !slices.Equal(ops, plan(appendOp(segment(0), logged(l)))) {
			t.Errorf("%s: %s", name, toldOps(ops))
		}
		again, ops := did(t, s, open)
		if !same(again, s) || len(ops) != 0 {
			t.Errorf("%s: Open: %s, %s; want %s", name, told(again), toldOps(ops), told(s))
		}
	}
	bad := api.Change{Key: "k", Value: "x", Gone: true}
	full := done(t, api.Store{}, write(set("a", "b")))
	for name, c := range map[string]struct {
		l    []api.Change
		want api.Errno
	}{
		"nil":                          {nil, api.ErrArg},
		"none":                         {batch(), api.ErrArg},
		"65":                           {many(0, 65), api.ErrLong},
		"65 of nothing":                {make([]api.Change, 65), api.ErrLong},
		"65 of one key":                {slices.Repeat(batch(set("a", "b")), 65), api.ErrLong},
		"a thousand":                   {many(0, 1000), api.ErrLong},
		"64 of nothing":                {make([]api.Change, 64), api.ErrArg},
		"no key":                       {batch(set("", "x")), api.ErrArg},
		"no key, gone":                 {batch(gone("")), api.ErrArg},
		"no key, a long value":         {batch(set("", sized(4097))), api.ErrArg},
		"gone with a value":            {batch(bad), api.ErrArg},
		"gone with a long value":       {batch(api.Change{Key: "k", Value: sized(4097), Gone: true}), api.ErrArg},
		"gone with a value, long key":  {batch(api.Change{Key: sized(65), Value: "x", Gone: true}), api.ErrArg},
		"a key of 65":                  {batch(set(sized(65), "x")), api.ErrLong},
		"a gone key of 65":             {batch(gone(sized(65))), api.ErrLong},
		"a value of 4097":              {batch(longer), api.ErrLong},
		"long ahead of none":           {batch(longer, set("", "")), api.ErrLong},
		"long ahead of gone":           {batch(set(sized(65), ""), bad), api.ErrLong},
		"none ahead of long":           {batch(set("", ""), longer), api.ErrArg},
		"gone ahead of long":           {batch(set("k", "v"), bad, longer), api.ErrArg},
		"the last of 64":               {append(many(0, 63), gone("")), api.ErrArg},
		"a long record, then no key":   {append(slices.Repeat(batch(long), 17), set("", "")), api.ErrArg},
		"a long record":                {slices.Repeat(batch(long), 17), api.ErrLong},
		"the longest record of all":    {slices.Repeat(batch(set(sized(64), sized(4096))), 64), api.ErrLong},
		"gone with a value, the last":  {append(many(0, 63), bad), api.ErrArg},
		"a long value, last of the 64": {append(many(0, 63), longer), api.ErrLong},
	} {
		refused(t, name, api.Store{}, write(c.l...), c.want)
		refused(t, name, full, write(c.l...), c.want)
	}
}

// longest: a batch whose record has just n bytes, of up to 16 changes.
func longest(n int) []api.Change {
	var l []api.Change
	left := n - 4
	for i := 0; left > 0; i++ {
		size := min(left-13-2, 4096)
		l = append(l, set(fmt.Sprintf("%02d", i), sized(size)))
		left -= 13 + 2 + size
	}
	return l
}

// P7.1: a record as long as chapter 1 allows, and one byte longer.
func TestLongRecord(t *testing.T) {
	l := longest(1 << 16)
	if n := len(record(l...)); n != 1<<16 {
		t.Fatalf("the record has %d bytes", n)
	}
	s, ops := did(t, api.Store{}, write(l...))
	if len(ops) != 1 || len(ops[0].Bytes) != 1<<16+8 || len(s.Mem) != len(l) {
		t.Errorf("Write: %s", toldOps(ops))
	}
	if again, ops := did(t, s, open); !same(again, s) || len(ops) != 0 {
		t.Errorf("Open: %s, want %s", told(again), told(s))
	}
	refused(t, "one byte longer", api.Store{}, write(longest(1<<16+1)...), api.ErrLong)
	refused(t, "one byte longer, Mem full", api.Store{Mem: many(0, 1024)}, write(longest(1<<16+1)...), api.ErrLong)
}

// P7.1: Write goes to the log of Gen, to its next segment where the last one is full.
func TestWriteSegments(t *testing.T) {
	l := batch(set("a", sized(2000)))
	n := len(logged(l)) // two of them fit into a segment, three don't
	s := done(t, api.Store{}, write(l...), write(l...))
	s, ops := did(t, s, write(l...))
	if want := plan(syncOp(segment(0)), appendOp(segment(1), logged(l))); !slices.Equal(ops, want) {
		t.Errorf("the third: %s, want %s", toldOps(ops), toldOps(want))
	}
	if s.Disk.Files[0] != kept(segment(0), logged(l, l)) || s.Disk.Files[1] != loose(segment(1), logged(l)) || n > 2048 {
		t.Errorf("behind the third: %s", told(s))
	}
	_, ops = did(t, s, lsm.Safe)
	if want := plan(syncOp(segment(1))); !slices.Equal(ops, want) {
		t.Errorf("Safe: %s, want %s", toldOps(ops), toldOps(want))
	}
	_, ops = did(t, s, lsm.Flush)
	if want := plan(dropOp(segment(1)), dropOp(segment(0))); !slices.Equal(ops[4:], want) {
		t.Errorf("Flush drops %s, want %s", toldOps(ops[4:]), toldOps(want))
	}
}

// P7.1: Safe of nothing, and of what is safe already.
func TestSafe(t *testing.T) {
	is(t, "an empty store", api.Store{}, lsm.Safe, api.Store{}, nil)
	// A store whose Mem came from nowhere has no log either.
	odd := api.Store{Mem: batch(set("a", "b")), Disk: of(loose("waaaaa.000000", "x"), loose("waaaba.000001", "y")), Tables: []string{"t"}, Gen: 26, Marks: 7}
	is(t, "no log", odd, lsm.Safe, odd, nil)
	s := done(t, api.Store{}, write(set("a", "b")))
	want := s
	want.Disk = of(kept(segment(0), s.Disk.Files[0].Loose))
	is(t, "a log", s, lsm.Safe, want, plan(syncOp(segment(0))))
	is(t, "a safe log", want, lsm.Safe, want, plan(syncOp(segment(0))))
}

// fullMem: a store with 1024 changes in Mem.
func fullMem(t *testing.T) api.Store {
	var s api.Store
	for i := range 16 {
		s = done(t, s, write(many(64*i, 64)...))
	}
	return s
}

// P7.1: 1024 changes in Mem, and one more.
func TestFullMem(t *testing.T) {
	s := fullMem(t)
	if len(s.Mem) != 1024 {
		t.Fatalf("%d changes in Mem", len(s.Mem))
	}
	refused(t, "one more", s, write(set("a", "")), api.ErrFull)
	refused(t, "one more that is gone", s, write(gone("a")), api.ErrFull)
	refused(t, "one more, among others", s, write(set(key(0), "x"), set("z", "x")), api.ErrFull)
	refused(t, "one more, gone again", s, write(set("z", "x"), gone("z")), api.ErrFull)
	refused(t, "64 more", s, write(many(2000, 64)...), api.ErrFull)
	refused(t, "a batch that may not be", s, write(set("", "")), api.ErrArg)
	for name, l := range map[string][]api.Change{"again": many(500, 64), "gone": {gone(key(1023))}, "twice": {gone(key(0)), set(key(0), "x")}} {
		next := done(t, s, write(l...))
		if len(next.Mem) != 1024 {
			t.Errorf("%s: %d changes in Mem", name, len(next.Mem))
		}
	}
	s, _ = did(t, s, lsm.Flush)
	if pairs := all(s); len(pairs) != 1024 || len(s.Mem) != 0 {
		t.Errorf("behind Flush: %d pairs, %d changes in Mem", len(pairs), len(s.Mem))
	}
	done(t, s, write(set("a", "")))
	less := done(t, api.Store{Mem: many(0, 960)}, write(many(960, 64)...))
	refused(t, "one more", less, write(set("a", "")), api.ErrFull)
	refused(t, "Mem above 1024 already", api.Store{Mem: many(0, 1025)}, write(set(key(0), "")), api.ErrFull)
	refused(t, "65 into 960", api.Store{Mem: many(0, 961)}, write(many(961, 64)...), api.ErrFull)
}

// P7.1: a disk that has no room.
func TestFullDisk(t *testing.T) {
	files := func(n int) []api.File {
		var l []api.File
		for i := range n {
			l = append(l, kept(fmt.Sprintf("x%02d", i), "x"))
		}
		return l
	}
	room := api.Store{Disk: of(files(63)...)}
	none := api.Store{Disk: of(files(64)...)}
	refused(t, "Write, no room", none, write(set("a", "b")), api.ErrFull)
	is(t, "Safe, no room", none, lsm.Safe, none, nil)
	s := done(t, room, write(set("a", "b")))
	refused(t, "Flush, no room for a table", s, lsm.Flush, api.ErrFull)
	room.Mem = s.Mem
	refused(t, "Flush, no room for the manifest", room, lsm.Flush, api.ErrFull)
	room.Disk = of(files(62)...)
	if next, _ := did(t, room, lsm.Flush); len(next.Disk.Files) != 2 {
		t.Errorf("Flush, just enough room: %s", told(next))
	}
	tables := api.Store{Disk: of(append(files(63), kept("m.000000", ""))...), Tables: []string{"x00", "x01"}}
	refused(t, "Merge, no room", tables, lsm.Merge, api.ErrFull)
	// A file of the table's name that lies there already.
	long := api.Store{Mem: batch(set("a", "b")), Disk: of(kept("t.000003", sized(1<<20-10))), Marks: 3}
	refused(t, "Flush, a long file", long, lsm.Flush, api.ErrLong)
	long.Tables = []string{"t.000000", "t.000001"}
	refused(t, "Merge, a long file", long, lsm.Merge, api.ErrLong)
	long.Disk = of(kept("t.000003", "y"))
	next, ops := did(t, long, lsm.Flush)
	if bytes, _ := disk.Bytes(next.Disk, "t.000003"); bytes != "y"+tabled(pair("a", "pb")) || len(ops) != 4 {
		t.Errorf("Flush behind another's bytes: %q, %s", bytes, toldOps(ops))
	}
}

// P7.1: a log or a manifest of so many segments that wal.Append finds no more number.
func TestLastSegment(t *testing.T) {
	last := func(prefix string) api.Disk {
		files := make([]api.File, 1_000_000)
		for i := range files {
			files[i].Name = fmt.Sprintf("%s.%06d", prefix, i)
		}
		files[len(files)-1].Kept = sized(4096)
		return of(files...)
	}
	log := last("waaaaa")
	for name, mem := range map[string][]api.Change{"no room": nil, "no room in Mem either": many(0, 1024)} {
		if s, ops, err := lsm.Write(api.Store{Disk: log, Mem: mem}, batch(set("a", "b"))); err != api.ErrFull || len(s.Mem) != 0 || len(ops) != 0 {
			t.Errorf("Write, %s: %v, %s", name, err, toldOps(ops))
		}
	}
	// The disk's ErrLong would be of the table's file; the manifest's ErrFull comes first.
	odd := last("m")
	odd.Files = append(odd.Files, kept("t.000000", sized(1<<20)))
	s := api.Store{Disk: odd, Mem: batch(set("a", "b")), Tables: []string{"t.000001", "t.000002"}}
	for name, c := range map[string]call{"Flush": lsm.Flush, "Merge": lsm.Merge} {
		if s, ops, err := c(s); err != api.ErrFull || len(s.Tables) != 0 || len(ops) != 0 {
			t.Errorf("%s: %v, %s", name, err, toldOps(ops))
		}
	}
	// Strays without number are soon gone.
	s = api.Store{Disk: log, Mem: batch(set("a", "b")), Gen: 1}
	s.Disk.Files = s.Disk.Files[:60]
	for i := range 100_000 {
		s.Disk.Files = append(s.Disk.Files, kept(fmt.Sprint("x", i), ""))
	}
	if next, ops, err := lsm.Open(s.Disk); err != api.OK || len(next.Disk.Files) != 60 || len(ops) != 100_000 || ops[0] != dropOp("x99999") {
		t.Errorf("Open: %v, %d files, %d operations", err, len(next.Disk.Files), len(ops))
	}
}

// P7.1: Flush with an empty Mem, and what else it may be refused for.
func TestFlush(t *testing.T) {
	is(t, "an empty store", api.Store{}, lsm.Flush, api.Store{}, nil)
	odd := api.Store{Disk: of(loose("stray", "x"), loose("m.000000", "y")), Gen: 4, Marks: -3, Tables: slices.Repeat([]string{"t.000000"}, 17)}
	is(t, "an empty Mem, whatever else there is", odd, lsm.Flush, odd, nil)

	full := api.Store{Mem: batch(set("a", "b")), Tables: slices.Repeat([]string{"t.000000"}, 16)}
	refused(t, "16 tables", full, lsm.Flush, api.ErrFull)
	full.Tables = append(full.Tables, "t.000001")
	refused(t, "17 tables", full, lsm.Flush, api.ErrFull)
	full.Mem = batch(set("b", ""), set("a", ""))
	refused(t, "16 tables, and a Mem that doesn't rise", full, lsm.Flush, api.ErrFull)

	for name, c := range map[string]struct {
		mem  []api.Change
		want api.Errno
	}{
		"a Mem that falls":       {batch(set("b", ""), set("a", "")), api.ErrArg},
		"a key twice":            {batch(set("a", "1"), gone("a")), api.ErrArg},
		"1025 changes":           {many(0, 1025), api.ErrLong},
		"1025 of one key":        {slices.Repeat(many(0, 1), 1025), api.ErrLong},
		"a block that is long":   {batch(set("a", sized(1<<16))), api.ErrLong},
		"a value one byte ahead": {batch(set("a", sized(1<<16-1))), api.ErrLong},
	} {
		refused(t, name, api.Store{Mem: c.mem, Disk: of(loose("stray", "x"))}, lsm.Flush, c.want)
	}
	big := api.Store{}
	for i := range 256 {
		big.Mem = append(big.Mem, set(key(i), sized(4096)))
	}
	refused(t, "a table above MaxBytes", big, lsm.Flush, api.ErrLong)
	big.Mem = big.Mem[:250]
	done(t, big, lsm.Flush)
	odd = api.Store{Mem: []api.Change{{Key: "", Value: "empty"}, {Key: "a", Value: "what was", Gone: true}}}
	next, ops := did(t, odd, lsm.Flush)
	if text := tabled(pair("", "pempty"), pair("a", "d")); ops[0] != appendOp("t.000000", text) {
		t.Errorf("a Mem that no store made: %s", toldOps(ops))
	}
	if got := all(next); !slices.Equal(got, []api.Pair{pair("", "empty")}) {
		t.Errorf("a Mem that no store made: %q", got)
	}
}

// P7.1: 16 tables and one more; a Merge makes room.
func TestSixteenTables(t *testing.T) {
	var s api.Store
	var want []api.Pair
	for i := range 16 {
		s = done(t, s, write(set(key(i), fmt.Sprint(i)), set("all", fmt.Sprint(i)), gone(key(i-1))), lsm.Flush)
		if len(s.Tables) != i+1 || s.Gen != i+1 || s.Marks != i+1 || s.Tables[i] != fmt.Sprintf("t.%06d", i) {
			t.Fatalf("behind Flush %d: %s", i, told(s))
		}
		want = []api.Pair{pair("all", fmt.Sprint(i)), pair(key(i), fmt.Sprint(i))}
		holds(t, fmt.Sprint(i+1, " tables"), s, want...)
		lacks(t, fmt.Sprint(i+1, " tables"), s, key(i-1), key(0)[:5])
	}
	again := done(t, s, open)
	if !same(again, s) {
		t.Errorf("Open: %s, want %s", told(again), told(s))
	}
	s = done(t, s, write(set("all", "now")))
	refused(t, "Flush with 16 tables", s, lsm.Flush, api.ErrFull)
	want[0].Value = "now"
	s = done(t, s, lsm.Merge)
	if !slices.Equal(s.Tables, []string{"t.000016"}) || s.Gen != 16 || s.Marks != 17 || len(s.Mem) != 1 {
		t.Errorf("behind Merge: %s", told(s))
	}
	holds(t, "behind Merge", s, want...)
	s = done(t, s, lsm.Flush)
	if !slices.Equal(s.Tables, []string{"t.000016", "t.000017"}) {
		t.Errorf("behind Merge and Flush: %s", told(s))
	}
	holds(t, "behind Merge and Flush", s, want...)
	var names []string
	for _, f := range s.Disk.Files {
		names = append(names, f.Name)
	}
	if !slices.Equal(names, []string{"m.000000", "t.000016", "t.000017"}) {
		t.Errorf("the files are %q", names)
	}
}

// P7.1: Merge with no, one, two and three tables.
func TestMerge(t *testing.T) {
	s := done(t, api.Store{}, write(set("a", "1"), set("b", "1"), set("d", "1")))
	is(t, "no table", s, lsm.Merge, s, nil)
	s = done(t, s, lsm.Flush, write(set("b", "2"), gone("a"), set("c", "2")))
	is(t, "one table", s, lsm.Merge, s, nil)
	s = done(t, s, lsm.Flush, write(set("c", "3"), gone("d")), lsm.Safe)
	text := tabled(pair("b", "p2"), pair("c", "p2"), pair("d", "p1"))
	log := kept("waaaac.000000", logged(batch(set("c", "3"), gone("d"))))
	marks := marked("tt.000000", "tt.000001", "ct.000002")
	want := api.Store{Disk: of(kept("m.000000", marks), kept("t.000002", text), log), Mem: s.Mem, Tables: []string{"t.000002"}, Gen: 2, Marks: 3}
	is(t, "two tables", s, lsm.Merge, want, plan(
		appendOp("t.000002", text), syncOp("t.000002"),
		appendOp("m.000000", marked("ct.000002")), syncOp("m.000000"),
		dropOp("t.000001"), dropOp("t.000000")))
	holds(t, "behind Merge", want, pair("b", "2"), pair("c", "3"))
	is(t, "one table again", want, lsm.Merge, want, nil)
	if again := done(t, want, open); !same(again, want) {
		t.Errorf("Open: %s, want %s", told(again), told(want))
	}
	next := done(t, want, lsm.Flush, write(set("a", "anew")), lsm.Flush, write(gone("x")))
	if len(next.Tables) != 3 || next.Marks != 5 || next.Gen != 4 {
		t.Errorf("three tables: %s", told(next))
	}
	next = done(t, next, lsm.Merge)
	if bytes, _ := disk.Bytes(next.Disk, "t.000005"); bytes != tabled(pair("a", "panew"), pair("b", "p2"), pair("c", "p3")) {
		t.Errorf("Merge of three: %q", bytes)
	}
	gones := done(t, api.Store{}, write(set("a", "1")), lsm.Flush, write(gone("a")), lsm.Flush, lsm.Merge)
	if bytes, _ := disk.Bytes(gones.Disk, "t.000002"); bytes != tabled() || len(gones.Tables) != 1 {
		t.Errorf("Merge of what is gone: %s", told(gones))
	}
	holds(t, "all gone", gones)
	if again := done(t, gones, open); !same(again, gones) {
		t.Errorf("Open: %s, want %s", told(again), told(gones))
	}
}

// P7.1: Merge where the tables hold as much as a table may, and more.
func TestMergeRefused(t *testing.T) {
	s := done(t, fullMem(t), lsm.Flush, write(set(key(0), "x"), set(key(5), "y")), lsm.Flush)
	if next := done(t, s, lsm.Merge); len(all(next)) != 1024 {
		t.Errorf("%d pairs", len(all(next)))
	}
	s = done(t, s, write(set("one more", "")), lsm.Flush)
	refused(t, "1025 pairs", s, lsm.Merge, api.ErrLong)
	s = done(t, s, write(gone(key(77))), lsm.Flush)
	if next := done(t, s, lsm.Merge); len(all(next)) != 1024 {
		t.Errorf("%d pairs", len(all(next)))
	}
	var big api.Store
	for i := range 260 {
		big = done(t, big, write(set(key(i), sized(4096))))
		if i%40 == 39 {
			big = done(t, big, lsm.Safe, lsm.Flush)
		}
	}
	big = done(t, big, lsm.Flush)
	refused(t, "more than MaxBytes", big, lsm.Merge, api.ErrLong)
}

// P7.1: the letters of generations.
func TestGenerations(t *testing.T) {
	const all = 26 * 26 * 26 * 26 * 26
	for gen, prefix := range map[int]string{
		0: "waaaaa", 1: "waaaab", 25: "waaaaz", 26: "waaaba", 27: "waaabb", 51: "waaabz", 52: "waaaca", 675: "waaazz", 676: "waabaa",
		17575: "waazzz", 17576: "wabaaa", 456975: "wazzzz", 456976: "wbaaaa",
		all - 1: "wzzzzz", all: "waaaaa", all + 1: "waaaab", 3*all + 676: "waabaa", 30*all + 28: "waaabc",
	} {
		s := done(t, api.Store{Gen: gen}, write(set("a", "b")))
		if s.Disk.Files[0].Name != prefix+".000000" || s.Gen != gen {
			t.Errorf("generation %d: %s", gen, told(s))
		}
		next := done(t, s, lsm.Flush)
		if next.Gen != gen+1 || len(next.Disk.Files) != 2 {
			t.Errorf("generation %d, Flush: %s", gen, told(next))
		}
		holds(t, prefix, next, pair("a", "b"))
	}
	for _, gen := range []int{-1, -26, -all - 5, math.MinInt, math.MaxInt} {
		s := done(t, api.Store{Gen: gen, Marks: gen}, write(set("a", "b")), lsm.Safe, lsm.Flush, write(set("b", "c")), lsm.Flush)
		holds(t, fmt.Sprint(gen), s, pair("a", "b"), pair("b", "c"))
	}
	// Each Flush opens a log; its generation comes back from the manifest, over a carry and a Merge.
	var s api.Store
	for i := range 30 {
		s = done(t, s, write(set(key(i), "")), lsm.Flush)
		if i%7 == 6 {
			s = done(t, s, lsm.Merge)
		}
	}
	s = done(t, s, write(set("z", "z")))
	if again := done(t, s, open); !same(again, s) || s.Gen != 30 || s.Marks != 34 || s.Disk.Files[len(s.Disk.Files)-1].Name != "waaabe.000000" {
		t.Errorf("30 generations: %s; Open: %s", told(s), told(again))
	}
}

// P7.1: which files are strays, by their names; the store's generation is 2.
func TestStrays(t *testing.T) {
	used := []string{"m.000000", "m.000009", "m.x", "m..", "m.00000", "waaaac.000000", "waaaac.000007", "waaaac.x", "waaaac..", "t.000000", "t.000004",
		"", "X", "M.000000", "waaaaa.A", "m 1", "x/y", "é", sized(33), "a\x00"}
	strays := []string{"m.", "m", "mm.000000", "m0", "am.000000", "waaaac.", "waaaac", "waaaacc.000000", "waaaaa.000000", "waaaab.000000", "waaaad.000000", "waaac.000000", "aaaaac.000000",
		"t.000001", "t.00000", "t.0000000", "t", "t.", "tt.000000", "tabcdefg", "a", "0", ".", "..", "z", sized(32), "waaaa.000000", "xwaaaac.000000", "1m.000000", "a"}
	text := tabled(pair("a", "p1"))
	bytes := map[string]string{"m.000000": marked("tt.000000", "ctabcdefg", "ct.000000", "tt.000004"), "t.000000": text, "t.000004": text}
	var files, left []api.File
	var ops []api.DiskOp
	for i := range max(len(used), len(strays)) {
		if i < len(used) {
			f := kept(used[i], bytes[used[i]])
			files, left = append(files, f), append(left, f)
		}
		if i < len(strays) {
			files = append(files, loose(strays[i], "stray"))
			ops = append(plan(dropOp(strays[i])), ops...)
		}
	}
	want := api.Store{Disk: of(left...), Tables: []string{"t.000000", "t.000004"}, Gen: 2, Marks: 4}
	is(t, "Open", api.Store{Disk: of(files...)}, open, want, ops)

	// Flush drops what the generation ahead of it used, and keeps what lies there of the new one.
	s := api.Store{Disk: of(files...), Mem: batch(set("b", "2")), Tables: []string{"t.000000", "t.000004", "z"}, Gen: 1, Marks: 8}
	_, did := did(t, s, lsm.Flush)
	ops = slices.DeleteFunc(ops, func(op api.DiskOp) bool { return op.Name == "z" })
	if !slices.Equal(did[4:], ops) {
		t.Errorf("Flush drops %s, want %s", toldOps(did[4:]), toldOps(ops))
	}
}

// P7.1: ranges, whose ends are the same, or lie the wrong way round too.
func TestRange(t *testing.T) {
	s := done(t, api.Store{}, write(set("a", "1"), set("c", "1"), set("e", "1")), lsm.Flush,
		write(set("b", "2"), gone("c"), set("e", "2")), lsm.Flush, write(set("d", "3"), set("f", ""), gone("b")))
	holds(t, "three layers", s, pair("a", "1"), pair("d", "3"), pair("e", "2"), pair("f", ""))
	lacks(t, "three layers", s, "b", "c", "aa", "g")
	for ends, want := range map[[2]string]string{
		{"", "z"}: "adef", {"", ""}: "", {"a", "a"}: "", {"a", "a\x00"}: "a", {"a", "b"}: "a", {"a", "d"}: "a", {"a", "e"}: "ad", {"b", "e"}: "d",
		{"b", "b"}: "", {"e", "a"}: "", {"z", ""}: "", {"f", "e"}: "", {"a\x00", "f"}: "de", {"f", "\xff"}: "f", {"g", "\xff"}: "", {"", "a"}: "", {"d", "f\x00"}: "def",
	} {
		var got string
		for _, p := range lsm.Range(s, ends[0], ends[1]) {
			got += p.Key
		}
		if got != want {
			t.Errorf("Range from %q to %q: %q, want %q", ends[0], ends[1], got, want)
		}
	}
	if l := lsm.Range(api.Store{}, "", "\xff"); len(l) != 0 {
		t.Errorf("of nothing: %q", l)
	}
}

// P7.1: Get, Range and Merge of stores whose tables are broken, and of values that begin with neither letter.
func TestBrokenTables(t *testing.T) {
	first := tabled(pair("", "pnone"), pair("a", "p1"), pair("b", "p1"), pair("c", "p1"), pair("d", "pd"), pair("e", "pp"))
	second := tabled(pair("a", ""), pair("b", "d"), pair("c", "x1"), pair("d", "P"), pair("f", "dp"), pair("g", "p"), pair("h", "\xff"))
	s := api.Store{Disk: of(kept("t.000000", first[:4]), loose("t.000001", second), kept("X", tabled(pair("x", "px"))), kept("broken", second[1:]), kept("t.000000", second)),
		Tables: []string{"t.000000", "missing", "t.000001", "", "broken", "X"}}
	s.Disk.Files[0].Loose = first[4:]
	want := []api.Pair{pair("", "none"), pair("e", "p"), pair("g", ""), pair("x", "x")}
	check := func(name string, s api.Store) {
		t.Helper()
		if got := all(s); !slices.Equal(got, want) {
			t.Errorf("%s holds %q, want %q", name, got, want)
		}
		for _, p := range want {
			if v, ok := lsm.Get(s, p.Key); v != p.Value || !ok {
				t.Errorf("%s: Get(%q) is %q, %v", name, p.Key, v, ok)
			}
		}
		lacks(t, name, s, "a", "b", "c", "d", "f", "h", "i")
	}
	check("broken tables", s)
	next, ops := did(t, s, lsm.Merge)
	if ops[0] != appendOp("t.000000", tabled(pair("", "pnone"), pair("e", "pp"), pair("g", "p"), pair("x", "px"))) {
		t.Errorf("Merge: %s", toldOps(ops))
	}
	// The name of number 0 is taken: what stands there now is no table.
	want = nil
	check("a table behind a table", next)
	s.Marks, want = 9, []api.Pair{pair("", "none"), pair("e", "p"), pair("g", ""), pair("x", "x")}
	check("merged", done(t, s, lsm.Merge))
	s.Tables = []string{"missing", "broken"}
	want = nil
	check("nothing but broken ones", s)
	check("nothing but broken ones, merged", done(t, s, lsm.Merge))
	// The later change of a Mem that doesn't rise counts, and the newest table of one name twice.
	s.Tables = []string{"X", "t.000001", "X"}
	s.Mem = batch(set("g", "1"), set("x", "1"), gone("g"), set("x", "2"), set("a", "3"))
	for _, p := range []api.Pair{pair("x", "2"), pair("a", "3")} {
		if v, ok := lsm.Get(s, p.Key); v != p.Value || !ok {
			t.Errorf("Get(%q) is %q, %v", p.Key, v, ok)
		}
	}
	lacks(t, "a Mem that doesn't rise", s, "g")
	if got := all(s); !slices.Equal(got, []api.Pair{pair("a", "3"), pair("x", "2")}) {
		t.Errorf("a Mem that doesn't rise: %q", got)
	}
}

// P7.1: Copy.
func TestCopy(t *testing.T) {
	for _, s := range []api.Store{
		{},
		{Disk: of(), Mem: batch(), Tables: []string{}, Gen: -7, Marks: math.MinInt},
		{Disk: of(api.File{Name: "X", Kept: "a", Loose: "b"}, kept("", "")), Mem: []api.Change{{Key: "b", Value: "x", Gone: true}, {Key: "a"}}, Tables: []string{"", "t"}, Gen: 5, Marks: 6},
	} {
		if got := lsm.Copy(s); !same(got, s) {
			t.Errorf("Copy: %s, want %s", told(got), told(s))
		}
	}
}
