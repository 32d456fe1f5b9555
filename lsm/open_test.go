package lsm_test

import (
	"fmt"
	"slices"
	"testing"

	"levee/api"
	"levee/lsm"
)

// P7.1: what Open makes of a manifest, and in which order it mends.
func TestOpen(t *testing.T) {
	a, b := tabled(pair("a", "p1"), pair("b", "p1")), tabled(pair("b", "d"), pair("c", "p2"))
	marks := marked("tt.000000", "tt.000001")
	log := logged(batch(set("d", "3"), gone("a")), batch(set("a", "4")))
	files := []api.File{
		loose("m.000000", marks+"torn"), kept("m.000001", marked("tt.000009")), loose("stray", ""), kept("t.000000", a), kept("t.000001", b), kept("t.000002", b),
		kept("waaaab.000000", "of another generation"), {Name: "waaaac.000000", Kept: log[:11], Loose: log[11:] + "torn"}, kept("waaaac.000001", "x"), kept("waaaac.000002", logged(many(0, 1))), kept("waaaac.000004", "behind a gap"),
	}
	want := api.Store{
		Disk: of(kept("m.000000", marks), kept("t.000000", a), kept("t.000001", b), kept("waaaac.000000", log), kept("waaaac.000004", "behind a gap")),
		Mem:  batch(set("a", "4"), set("d", "3")), Tables: []string{"t.000000", "t.000001"}, Gen: 2, Marks: 2,
	}
	is(t, "torn logs", api.Store{Disk: of(files...)}, open, want, plan(
		dropOp("m.000001"), cutOp("m.000000", len(marks)),
		dropOp("waaaab.000000"), dropOp("t.000002"), dropOp("stray"),
		dropOp("waaaac.000002"), dropOp("waaaac.000001"), cutOp("waaaac.000000", len(log))))
	is(t, "mended", want, open, want, nil)
	holds(t, "mended", want, pair("a", "4"), pair("c", "2"), pair("d", "3"))
	// What else the store has doesn't matter.
	is(t, "with another store's Mem", api.Store{Disk: want.Disk, Mem: many(0, 3), Tables: []string{"x"}, Gen: 9, Marks: -1}, open, want, nil)
}

// P7.1: manifests that may be, with Tables, Gen and Marks of them.
func TestManifests(t *testing.T) {
	names := func(n int) (l []string) {
		for i := range n {
			l = append(l, fmt.Sprintf("t.%06d", i))
		}
		return l
	}
	flushed := func(names ...string) (l []string) {
		for _, n := range names {
			l = append(l, "t"+n)
		}
		return l
	}
	for name, c := range map[string]struct {
		words, tables []string
		gen           int
	}{
		"none":                     {nil, nil, 0},
		"one":                      {flushed("t.000000"), names(1), 1},
		"16":                       {flushed(names(16)...), names(16), 16},
		"c alone":                  {[]string{"ct.000000"}, names(1), 0},
		"c and 15":                 {append([]string{"ct.000009"}, flushed(names(15)...)...), append([]string{"t.000009"}, names(15)...), 15},
		"16, then c":               {append(flushed(names(16)...), "ct.000003"), []string{"t.000003"}, 16},
		"17, then c":               {append(flushed(names(17)...), "ct.000003"), []string{"t.000003"}, 17},
		"c and c":                  {[]string{"tt.000001", "ct.000000", "ct.000002"}, []string{"t.000002"}, 1},
		"one name twice":           {flushed("t.000000", "t.000000"), []string{"t.000000", "t.000000"}, 2},
		"numbers that fall":        {flushed("t.000007", "t.000002"), []string{"t.000007", "t.000002"}, 2},
		"odd names":                {flushed("tabcdefg", "t.......", "t0000000", "tt.00000"), []string{"tabcdefg", "t.......", "t0000000", "tt.00000"}, 4},
		"missing, but merged away": {[]string{"ttmissing", "ct.000001"}, []string{"t.000001"}, 1},
		"broken, but merged away":  {[]string{"ttbroken0", "tt.000002", "ct.000001"}, []string{"t.000001"}, 2},
	} {
		files := []api.File{kept("m.000000", marked(c.words...)), kept("tbroken0", "x")}
		var want api.Store
		want.Disk = of(files[0])
		for _, n := range slices.Compact(slices.Concat(names(17), []string{"tabcdefg", "t.......", "t0000000", "tt.00000"})) {
			f := kept(n, tabled(pair("at "+n, "p"+n), pair("b", "p"+n)))
			files = append(files, f)
			if slices.Contains(c.tables, n) {
				want.Disk.Files = append(want.Disk.Files, f)
			}
		}
		want.Tables, want.Gen, want.Marks = c.tables, c.gen, len(c.words)
		got, ops := did(t, api.Store{Disk: of(files...)}, open)
		if !same(got, want) || len(ops) != len(files)-len(want.Disk.Files) {
			t.Errorf("%s: %s, want %s", name, told(got), told(want))
		}
		if v, ok := lsm.Get(got, "b"); ok != (len(c.tables) > 0) || ok && v != c.tables[len(c.tables)-1] {
			t.Errorf("%s: the newest is %q", name, v)
		}
	}
}

// P7.1: a manifest's record that is none.
func TestManifestRefused(t *testing.T) {
	good := pack("t", "t.000000")
	// What a disk needs so that it's the record alone that is wrong.
	var tables []api.File
	for _, n := range []string{"t.000000", "t.00000", "t.0000000", "m.000003", "T.000000", "t.00000A", "t 000000", "x.000000", "", "t", "t.00000\xff", "a.000000"} {
		tables = append(tables, kept(n, tabled(pair("a", "p1"))))
	}
	s := api.Store{Disk: of(append(tables, kept("m.000000", frames(good)))...)}
	if _, ops, err := lsm.Open(s.Disk); err != api.OK || len(ops) == 0 {
		t.Errorf("a good record: %s, %v", toldOps(ops), err)
	}
	for name, r := range map[string]string{
		"nothing":              "",
		"no Pack":              "tt.000000",
		"less than a Pack":     good[:len(good)-1],
		"more than a Pack":     good + "x",
		"no field":             pack(),
		"one field":            pack("t"),
		"one, both together":   pack("tt.000000"),
		"three fields":         pack("t", "t.000000", ""),
		"four fields":          pack("t", "t.000000", "t", "t.000000"),
		"no letter":            pack("", "t.000000"),
		"another letter":       pack("d", "t.000000"),
		"p":                    pack("p", "t.000000"),
		"a capital":            pack("T", "t.000000"),
		"two letters":          pack("tt", "t.000000"),
		"both letters":         pack("tc", "t.000000"),
		"the fields about":     pack("t.000000", "t"),
		"seven bytes":          pack("t", "t.00000"),
		"nine bytes":           pack("t", "t.0000000"),
		"no name":              pack("t", ""),
		"one byte":             pack("c", "t"),
		"a file of m":          pack("t", "m.000003"),
		"a capital name":       pack("t", "T.000000"),
		"a capital in it":      pack("c", "t.00000A"),
		"a blank in it":        pack("t", "t 000000"),
		"bytes above 127":      pack("t", "t.00000\xff"),
		"another beginning":    pack("c", "x.000000"),
		"before the letter t":  pack("t", "a.000000"),
		"a batch":              record(set("a", "b")),
		"a batch of one field": pack("c"),
	} {
		for place, bytes := range map[string]string{
			"alone": frames(r), "first": frames(r, good), "last": frames(good, r), "between": frames(good, r, good), "torn behind": frames(r) + "x", "merged behind": frames(r, pack("c", "t.000000")),
		} {
			files := append(slices.Clone(tables), kept("m.000000", bytes))
			refused(t, name+", "+place, api.Store{Disk: of(files...)}, open, api.ErrStore)
		}
		// Where its frame is torn, and in a segment that goes, it doesn't count.
		bytes := frames(good) + frames(r)[:len(frames(r))-1]
		files := append(slices.Clone(tables), kept("m.000000", bytes), kept("m.000001", frames(r)))
		got, ops := did(t, api.Store{Disk: of(files...)}, open)
		if want := plan(dropOp("m.000001"), cutOp("m.000000", len(frames(good)))); !slices.Equal(ops[:2], want) || got.Marks != 1 {
			t.Errorf("%s, torn: %s, %s", name, told(got), toldOps(ops))
		}
	}
}

// P7.1: tables that aren't there, are no tables, or are too many.
func TestOpenTables(t *testing.T) {
	text := tabled(pair("a", "p1"))
	var words []string
	var files []api.File
	for i := range 17 {
		words = append(words, fmt.Sprintf("tt.%06d", i))
		files = append(files, kept(words[i][1:], text))
	}
	with := func(manifest string, files ...api.File) api.Store {
		return api.Store{Disk: of(append([]api.File{kept("m.000000", manifest)}, files...)...)}
	}
	if _, _, err := lsm.Open(with(marked(words[:16]...), files...).Disk); err != api.OK {
		t.Errorf("16 tables: %v", err)
	}
	refused(t, "17 tables", with(marked(words...), files...), open, api.ErrStore)
	refused(t, "c and 16", with(marked(append([]string{"ct.000000"}, words[1:]...)...), files...), open, api.ErrStore)
	refused(t, "17 of one name", with(marked(slices.Repeat(words[:1], 17)...), files...), open, api.ErrStore)
	broken := map[string]string{"empty": "", "a byte less": text[:len(text)-1], "a byte more": text + "x", "another byte": text[:20] + "?" + text[21:], "two tables": text + text, "a log": logged(many(0, 2))}
	for i := range 3 {
		missing := slices.Delete(slices.Clone(files[:3]), i, i+1)
		refused(t, fmt.Sprint("without table ", i), with(marked(words[:3]...), missing...), open, api.ErrStore)
		for name, bytes := range broken {
			l := slices.Clone(files[:3])
			l[i] = kept(l[i].Name, bytes)
			refused(t, fmt.Sprint(name, ", table ", i), with(marked(words[:3]...), l...), open, api.ErrStore)
		}
	}
	refused(t, "no table at all", with(marked(words[0])), open, api.ErrStore)
	refused(t, "c of a missing one", with(marked("ct.000000")), open, api.ErrStore)
	// A broken table is told ahead of a broken log, but both are ErrStore; strays that are broken are none of Open's.
	s := with(marked(words[0]), files[0], kept("t.000001", "broken"), kept("waaaaa.000000", logged(nil)))
	if _, ops, err := lsm.Open(s.Disk); err != api.OK || !slices.Equal(ops, plan(dropOp("waaaaa.000000"), dropOp("t.000001"))) {
		t.Errorf("broken strays: %s, %v", toldOps(ops), err)
	}
	// A table of loose bytes is one too, and one that is wide, of other keys and values than a store writes.
	wide := tabled(pair("", ""), pair(sized(100), "d"), pair("w", "x"), pair("x", "p"+sized(5000)))
	s = with(marked("tt.000000", "ct.000001"), kept("t.000001", wide[:9]))
	s.Disk.Files[1].Loose = wide[9:]
	got, ops := did(t, s, open)
	if len(ops) != 0 || !slices.Equal(all(got), []api.Pair{pair("x", sized(5000))}) {
		t.Errorf("a wide table: %s, %s", told(got), toldOps(ops))
	}
}

// P7.1: a log's record that is a batch, or none.
func TestOpenLog(t *testing.T) {
	for name, l := range map[string][]api.Change{
		"one": many(0, 1), "64": many(0, 64), "a key twice": batch(set("a", "1"), set("a", "2"), gone("b"), set("b", "")),
		"the longest key and value": batch(set(sized(64), sized(4096))), "gone": batch(gone("a")),
	} {
		s := done(t, api.Store{Disk: of(loose(segment(0), logged(l)))}, open)
		if want := done(t, api.Store{}, write(l...)); !same(s, want) {
			t.Errorf("%s: %s, want %s", name, told(s), told(want))
		}
	}
	good := record(set("a", "b"))
	for name, r := range map[string]string{
		"nothing":               "",
		"no Pack":               "pab",
		"a byte less":           good[:len(good)-1],
		"a byte more":           good + "x",
		"no change":             pack(),
		"one field":             pack("p"),
		"two fields":            pack("p", "a"),
		"four fields":           pack("p", "a", "b", "p"),
		"five fields":           pack("p", "a", "b", "p", "c"),
		"a pair more":           pack("p", "a", "b", "d", "c"),
		"another letter":        pack("c", "a", "b"),
		"t":                     pack("t", "a", ""),
		"no letter":             pack("", "a", "b"),
		"a capital":             pack("P", "a", "b"),
		"two letters":           pack("pd", "a", ""),
		"no key":                pack("p", "", "b"),
		"no key, gone":          pack("d", "", ""),
		"a key of 65":           pack("p", sized(65), "b"),
		"a gone key of 65":      pack("d", sized(65), ""),
		"a value of 4097":       pack("p", "a", sized(4097)),
		"gone with a value":     pack("d", "a", "b"),
		"65 changes":            record(many(0, 65)...),
		"65 of one key":         record(slices.Repeat(batch(set("a", "")), 65)...),
		"a thousand changes":    record(many(0, 1000)...),
		"bad behind good":       pack("p", "a", "b", "d", "a", "b"),
		"a manifest's":          pack("t", "t.000000"),
		"a letter wrong behind": pack("p", "a", "b", "x", "a", "b"),
	} {
		for place, bytes := range map[string]string{"alone": frames(r), "first": frames(r, good), "last": frames(good, r), "torn behind": frames(good, r) + "x"} {
			refused(t, name+", "+place, api.Store{Disk: of(kept(segment(0), bytes))}, open, api.ErrStore)
			refused(t, name+", "+place+", second", api.Store{Disk: of(kept(segment(0), frames(good)), loose(segment(1), bytes))}, open, api.ErrStore)
		}
		bytes := frames(r)
		s, _ := did(t, api.Store{Disk: of(kept(segment(0), frames(good)+bytes[:len(bytes)-1]), kept(segment(1), frames(r)))}, open)
		if want := done(t, api.Store{}, write(set("a", "b")), lsm.Safe); !same(s, want) {
			t.Errorf("%s, torn: %s, want %s", name, told(s), told(want))
		}
	}
	// No call writes a log of more than 1024 keys; Open takes it as it is.
	var batches [][]api.Change
	for i := range 17 {
		batches = append(batches, many(64*i, 64))
	}
	s := done(t, api.Store{Disk: of(kept(segment(0), logged(batches...)))}, open)
	if len(s.Mem) != 17*64 || !slices.IsSortedFunc(s.Mem, func(a, b api.Change) int { return len(a.Key) - len(b.Key) }) {
		t.Errorf("17 batches: %d changes", len(s.Mem))
	}
}

// P7.1: two files of one name: the first one counts; both of a stray go.
func TestTwoOfOneName(t *testing.T) {
	a, b := tabled(pair("a", "p1")), tabled(pair("b", "p1"))
	log := logged(batch(set("c", "1")))
	files := []api.File{
		kept("m.000000", marked("tt.000000")), kept("waaaab.000000", log+"x"), kept("stray", "1"), kept("t.000000", a),
		kept("m.000000", "broken"), kept("waaaab.000000", "broken"), loose("stray", "2"), kept("t.000000", b), kept("t.000000", "broken"), kept("stray", ""),
	}
	want := api.Store{Tables: []string{"t.000000"}, Gen: 1, Marks: 1, Mem: batch(set("c", "1"))}
	for _, f := range files {
		if f.Name != "stray" {
			want.Disk.Files = append(want.Disk.Files, f)
		}
	}
	want.Disk.Files[1].Kept = log
	is(t, "Open", api.Store{Disk: of(files...)}, open, want, plan(dropOp("stray"), dropOp("stray"), dropOp("stray"), cutOp("waaaab.000000", len(log))))
	holds(t, "two files of one name", want, pair("a", "1"), pair("c", "1"))
	next := done(t, want, write(set("d", "2")))
	if next.Disk.Files[1].Loose != logged(batch(set("d", "2"))) {
		t.Errorf("Write: %s", told(next))
	}
	broken := api.Store{Disk: of(kept("t.000000", "broken"), kept("t.000000", a), kept("m.000000", marked("tt.000000")))}
	refused(t, "the first one is broken", broken, open, api.ErrStore)
}
