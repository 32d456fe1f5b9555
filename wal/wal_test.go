package wal_test

import (
	"fmt"
	"math"
	"slices"
	"strconv"
	"strings"
	"testing"

	"levee/api"
	"levee/code"
	"levee/wal"
)

// of: the disk of these files.
func of(files ...api.File) api.Disk { return api.Disk{Files: files} }

func kept(name, bytes string) api.File { return api.File{Name: name, Kept: bytes} }

func loose(name, bytes string) api.File { return api.File{Name: name, Loose: bytes} }

func appendOp(name, bytes string) api.DiskOp {
	return api.DiskOp{Kind: api.Append, Name: name, Bytes: bytes}
}

func syncOp(name string) api.DiskOp { return api.DiskOp{Kind: api.Sync, Name: name} }

func cutOp(name string, at int) api.DiskOp { return api.DiskOp{Kind: api.Cut, Name: name, At: at} }

func dropOp(name string) api.DiskOp { return api.DiskOp{Kind: api.Drop, Name: name} }

func plan(ops ...api.DiskOp) []api.DiskOp { return ops }

// frames: the frames of the records, one behind the other.
func frames(records ...string) string {
	var all strings.Builder
	for _, r := range records {
		f, _ := code.Frame(r)
		all.WriteString(f)
	}
	return all.String()
}

// sized: a record whose frame has n bytes.
func sized(n int) string { return strings.Repeat("r", n-8) }

// told: the lengths and beginnings of a plan's operations, short enough for a failure's line.
func told(ops []api.DiskOp) string {
	var out strings.Builder
	for _, op := range ops {
		fmt.Fprintf(&out, "[%d %q %d bytes %.20q at %d]", op.Kind, op.Name, len(op.Bytes), op.Bytes, op.At)
	}
	return out.String()
}

// planned: is what a call answered this plan, and no error?
func planned(t *testing.T, name string, got []api.DiskOp, err api.Errno, want []api.DiskOp) {
	t.Helper()
	if !slices.Equal(got, want) || err != api.OK {
		t.Errorf("%s: %s, %v; want %s", name, told(got), err, told(want))
	}
}

// P5.1: Name.
func TestName(t *testing.T) {
	for _, c := range []struct {
		p    string
		i    int
		want string
	}{
		{"w", 7, "w.000007"},
		{"w", 0, "w.000000"},
		{"w", 10, "w.000010"},
		{"abcdefgh", 123456, "abcdefgh.123456"},
		{"m", 100000, "m.100000"},
		{"m", 99999, "m.099999"},
		{"m", 999999, "m.999999"},
		{"m", 1000000, "m.000000"},
		{"m", 1000001, "m.000001"},
		{"m", 98765432, "m.765432"},
		{"m", math.MaxInt32, "m.483647"},
		{"W 1", 2, "W 1.000002"},
		{"", 3, ".000003"},
	} {
		if got := wal.Name(c.p, c.i); got != c.want {
			t.Errorf("Name(%q, %d) = %q, want %q", c.p, c.i, got, c.want)
		}
	}
	for i := range 1_000_000 {
		if got := wal.Name("t", i); len(got) != 8 || got != "t."+strconv.Itoa(1_000_000 + i)[1:] {
			t.Fatalf("Name of %d = %q", i, got)
		}
	}
	for _, i := range []int{-1, -7, math.MinInt, math.MinInt + 1, math.MaxInt} {
		wal.Name("w", i) // ends, and doesn't panic
	}
}

// P5.1: the chapter's examples.
func TestExamples(t *testing.T) {
	ops, err := wal.Append(api.Disk{}, "w", "a")
	if len(ops) != 1 || ops[0].Kind != api.Append || ops[0].Name != "w.000000" || len(ops[0].Bytes) != 9 || err != api.OK {
		t.Errorf("Append of a: %s, %v", told(ops), err)
	}
	if l, ops, err := wal.Open(api.Disk{}, "W"); len(l) != 0 || len(ops) != 0 || err != api.ErrArg {
		t.Errorf("Open of W: %q, %s, %v", l, told(ops), err)
	}
}

// allCalls: what each call that may be refused answers as its error; beside one there is nothing else.
func allCalls(t *testing.T, d api.Disk, p, record string) map[string]api.Errno {
	t.Helper()
	errs := map[string]api.Errno{}
	note := func(call string, ops []api.DiskOp, err api.Errno) {
		if err != api.OK && len(ops) != 0 {
			t.Errorf("%s of %q: %s beside %v", call, p, told(ops), err)
		}
		errs[call] = err
	}
	l, ops, err := wal.Open(d, p)
	if err != api.OK && len(l) != 0 {
		t.Errorf("Open of %q: %q beside %v", p, l, err)
	}
	note("Open", ops, err)
	ops, err = wal.Append(d, p, record)
	note("Append", ops, err)
	ops, err = wal.Sync(d, p)
	note("Sync", ops, err)
	ops, err = wal.Drop(d, p)
	note("Drop", ops, err)
	return errs
}

// P5.1: prefixes that may be, and that may not.
func TestPrefix(t *testing.T) {
	refused := func(p string, want api.Errno) {
		t.Helper()
		// The disk has files of just the names that a wrong prefix would make.
		for _, d := range []api.Disk{of(), of(kept(p+".000000", frames("x")+"y"), kept(p+".000001", frames("z")))} {
			for call, err := range allCalls(t, d, p, "a") {
				if err != want {
					t.Errorf("%s of %q: %v, want %v", call, p, err, want)
				}
			}
		}
	}
	for _, p := range []string{"a", "z", "w", "m", "waaaaa", "abcdefgh", "zzzzzzzz"} {
		refused(p, api.OK)
	}
	for _, p := range []string{
		"", "W", "A", "Z", "aB", "Ba", "abcdefghi", strings.Repeat("a", 26), strings.Repeat("a", 1<<20), "w.", ".w", ".", "w0", "0w", "9", "w w", " w", "w\n", "w\x00",
		"\x00", "a-b", "a_b", "`", "{", "@", "[", "ä", "wä", "abcdefgä", "\xff", "w.000000", "abcdefgH",
	} {
		refused(p, api.ErrArg)
	}
	for c := range 256 {
		want := api.ErrArg
		if 'a' <= c && c <= 'z' {
			want = api.OK
		}
		b := string([]byte{byte(c)})
		for _, p := range []string{b, b + "a", "a" + b, "a" + b + "a"} {
			refused(p, want)
		}
	}
	for n := range 40 {
		want := api.OK
		if n < 1 || n > 8 {
			want = api.ErrArg
		}
		refused(strings.Repeat("q", n), want)
	}
}

// P5.1: Append, segment by segment.
func TestAppend(t *testing.T) {
	full := frames(sized(4096))
	for _, c := range []struct {
		name   string
		d      api.Disk
		record string
		want   []api.DiskOp
	}{
		{"no segment", of(), "a", plan(appendOp("w.000000", frames("a")))},
		{"no segment, nothing in the record", of(), "", plan(appendOp("w.000000", "\x00\x00\x00\x00"+frames("")[4:]))},
		{"no segment, a record of any bytes", of(), "\x00\xff\n.", plan(appendOp("w.000000", frames("\x00\xff\n.")))},
		{"no segment, a frame above MaxSeg", of(), sized(4097), plan(appendOp("w.000000", frames(sized(4097))))},
		{"no segment, a record of MaxField", of(), strings.Repeat("r", 1<<16), plan(appendOp("w.000000", frames(strings.Repeat("r", 1<<16))))},
		{"other files alone", of(kept("v.000000", full), kept("ww.000000", full), kept("w.00000", full)), "a", plan(appendOp("w.000000", frames("a")))},
		{"number 1 without number 0", of(kept("w.000001", full)), "a", plan(appendOp("w.000000", frames("a")))},
		{"an empty one", of(kept("w.000000", "")), "a", plan(appendOp("w.000000", frames("a")))},
		{"an empty one, a frame of MaxSeg", of(kept("w.000000", "")), sized(4096), plan(appendOp("w.000000", full))},
		{"an empty one, a frame above MaxSeg", of(kept("w.000000", "")), sized(4097), plan(appendOp("w.000000", frames(sized(4097))))},
		{"an empty one, a record of MaxField", of(kept("w.000000", "")), strings.Repeat("r", 1<<16), plan(appendOp("w.000000", frames(strings.Repeat("r", 1<<16))))},
		{"an empty one behind a full one", of(kept("w.000000", full), kept("w.000001", "")), sized(5000), plan(appendOp("w.000001", frames(sized(5000))))},
		{"one record more", of(kept("w.000000", frames("a"))), "b", plan(appendOp("w.000000", frames("b")))},
		{"one record more behind loose ones", of(loose("w.000000", frames("a"))), "b", plan(appendOp("w.000000", frames("b")))},
		{"it just fits", of(kept("w.000000", full[:4096-20])), sized(20), plan(appendOp("w.000000", frames(sized(20))))},
		{"it just fits behind loose bytes", of(loose("w.000000", full[:4096-20])), sized(20), plan(appendOp("w.000000", frames(sized(20))))},
		{"it just fits behind both", of(api.File{Name: "w.000000", Kept: full[:2000], Loose: full[:2076]}), sized(20), plan(appendOp("w.000000", frames(sized(20))))},
		{"an empty record just fits", of(kept("w.000000", full[:4088])), "", plan(appendOp("w.000000", frames("")))},
		{"a great one just fits", of(kept("w.000000", "x")), sized(4095), plan(appendOp("w.000000", frames(sized(4095))))},
		{"one byte too much", of(kept("w.000000", full[:4096-19])), sized(20), plan(syncOp("w.000000"), appendOp("w.000001", frames(sized(20))))},
		{"one byte too much behind loose bytes", of(loose("w.000000", full[:4096-19])), sized(20), plan(syncOp("w.000000"), appendOp("w.000001", frames(sized(20))))},
		{"one byte too much behind both", of(api.File{Name: "w.000000", Kept: full[:2000], Loose: full[:2077]}), sized(20), plan(syncOp("w.000000"), appendOp("w.000001", frames(sized(20))))},
		{"an empty record one byte too much", of(kept("w.000000", full[:4089])), "", plan(syncOp("w.000000"), appendOp("w.000001", frames("")))},
		{"one byte, and a frame of MaxSeg", of(kept("w.000000", "x")), sized(4096), plan(syncOp("w.000000"), appendOp("w.000001", full))},
		{"a full one", of(kept("w.000000", full)), "", plan(syncOp("w.000000"), appendOp("w.000001", frames("")))},
		{"one above MaxSeg", of(kept("w.000000", full+full)), "", plan(syncOp("w.000000"), appendOp("w.000001", frames("")))},
		{"a record of MaxField behind another", of(kept("w.000000", frames("a"))), strings.Repeat("r", 1<<16), plan(syncOp("w.000000"), appendOp("w.000001", frames(strings.Repeat("r", 1<<16))))},
		{"bytes that are no frame count", of(kept("w.000000", strings.Repeat("?", 4080))), "123456789", plan(syncOp("w.000000"), appendOp("w.000001", frames("123456789")))},
		{"bytes that are no frame, and room", of(kept("w.000000", "no frame")), "a", plan(appendOp("w.000000", frames("a")))},
		{"the last of three", of(kept("w.000000", ""), kept("w.000001", "x"), kept("w.000002", "yy")), "a", plan(appendOp("w.000002", frames("a")))},
		{"the last of three is full", of(kept("w.000000", ""), kept("w.000001", "x"), kept("w.000002", full)), "a", plan(syncOp("w.000002"), appendOp("w.000003", frames("a")))},
		{"in any order", of(kept("w.000002", full), kept("v", ""), kept("w.000000", "x"), kept("w.000001", "")), "a", plan(syncOp("w.000002"), appendOp("w.000003", frames("a")))},
		{"ahead of a gap", of(kept("w.000000", full), kept("w.000001", "x"), kept("w.000003", full), kept("w.000004", full)), "a", plan(appendOp("w.000001", frames("a")))},
		{"a full one ahead of a gap", of(kept("w.000000", full), kept("w.000002", "")), "a", plan(syncOp("w.000000"), appendOp("w.000001", frames("a")))},
		{"the first of two files of a name", of(kept("w.000000", full), kept("w.000000", "x")), "a", plan(syncOp("w.000000"), appendOp("w.000001", frames("a")))},
		{"the second one is full", of(kept("w.000000", "x"), kept("w.000000", full)), "a", plan(appendOp("w.000000", frames("a")))},
		{"the first of two is empty", of(kept("w.000000", ""), kept("w.000000", full)), "a", plan(appendOp("w.000000", frames("a")))},
	} {
		got, err := wal.Append(c.d, "w", c.record)
		planned(t, c.name, got, err, c.want)
	}
}

// P5.1: names that are nearly a segment's are none.
func TestNearlyNames(t *testing.T) {
	full := frames(sized(4096))
	for _, name := range []string{
		"", "w", "w.", "w000000", "w000001", "w.1", "w.00001", "w.0000001", "w.00000a", "w.+00001", "w.-00000", "w.00001 ", "w. 00001", "w.0x0001", "w.00000\x31\x00",
		"W.000001", "ww.000001", ".000001", "w..00001", "w..000001", "x.000001", "w.00000:", "w.00000/", "w-000001", "aw.000001", "w.000001.", "w.000001.000001", "w.00000١",
	} {
		d := of(kept(name, "x"), kept("w.000000", full), kept(name, full))
		if l, ops, err := wal.Open(d, "w"); len(l) != 1 || len(ops) != 0 || err != api.OK {
			t.Errorf("Open beside %q: %d records, %s, %v", name, len(l), told(ops), err)
		}
		ops, err := wal.Append(d, "w", "a")
		planned(t, "Append beside "+name, ops, err, plan(syncOp("w.000000"), appendOp("w.000001", frames("a"))))
		ops, err = wal.Sync(d, "w")
		planned(t, "Sync beside "+name, ops, err, plan(syncOp("w.000000")))
		ops, err = wal.Drop(d, "w")
		planned(t, "Drop beside "+name, ops, err, plan(dropOp("w.000000")))
	}
}

// many: segments number 0 to n - 1 of w, with those bytes in the last one.
func many(n int, last string) api.Disk {
	d := api.Disk{Files: make([]api.File, n)}
	for i := range d.Files {
		d.Files[i].Name = "w." + strconv.Itoa(1_000_000 + i)[1:]
	}
	d.Files[n-1].Loose = last
	return d
}

// P5.1: the errors, the one that the chapter names first ahead.
func TestAppendRefuses(t *testing.T) {
	most, above := strings.Repeat("r", 1<<16), strings.Repeat("r", 1<<16+1)
	far := many(1_000_000, frames(sized(4096)))
	for _, c := range []struct {
		name      string
		d         api.Disk
		p, record string
		want      api.Errno
	}{
		{"a record of MaxField", of(), "w", most, api.OK},
		{"a record above MaxField", of(), "w", above, api.ErrLong},
		{"one far above", of(), "w", strings.Repeat("r", 1<<21), api.ErrLong},
		{"above MaxField, behind others", of(kept("w.000000", frames("a"))), "w", above, api.ErrLong},
		{"a wrong prefix, above MaxField", of(), "W", above, api.ErrArg},
		{"no more numbers", far, "w", "a", api.ErrFull},
		{"no more numbers, nothing in the record", far, "w", "", api.ErrFull},
		{"no more numbers, a record of MaxField", far, "w", most, api.ErrFull},
		{"no more numbers, above MaxField", far, "w", above, api.ErrLong},
		{"no more numbers, a wrong prefix", far, "w.", above, api.ErrArg},
		{"no more numbers of w, but of v", far, "v", "a", api.OK},
	} {
		got, err := wal.Append(c.d, c.p, c.record)
		if err != c.want || (len(got) == 0) != (err != api.OK) {
			t.Errorf("%s: %s, %v; want %v", c.name, told(got), err, c.want)
		}
	}
}

// P5.1: the last number that a segment may have.
func TestLastNumber(t *testing.T) {
	full := frames(sized(4096))
	for _, c := range []struct {
		name   string
		last   string
		record string
		want   []api.DiskOp
	}{
		{"empty", "", "a", plan(appendOp("w.999999", frames("a")))},
		{"empty, a frame above MaxSeg", "", sized(4097), plan(appendOp("w.999999", frames(sized(4097))))},
		{"it just fits", full[:4096-20], sized(20), plan(appendOp("w.999999", frames(sized(20))))},
	} {
		got, err := wal.Append(many(1_000_000, c.last), "w", c.record)
		planned(t, c.name, got, err, c.want)
	}
	got, err := wal.Append(many(1_000_000, full[:4096-19]), "w", sized(20))
	if len(got) != 0 || err != api.ErrFull {
		t.Errorf("one byte too much: %s, %v", told(got), err)
	}
	got, err = wal.Append(many(999_999, full), "w", "a")
	planned(t, "the last number is free", got, err, plan(syncOp("w.999998"), appendOp("w.999999", frames("a"))))

	d := many(1_000_000, frames("a", "b"))
	slices.Reverse(d.Files)
	got, err = wal.Sync(d, "w")
	planned(t, "Sync", got, err, plan(syncOp("w.999999")))
	got, err = wal.Drop(d, "w")
	if len(got) != 1_000_000 || got[0] != dropOp("w.999999") || got[1] != dropOp("w.999998") || got[999_999] != dropOp("w.000000") || err != api.OK {
		t.Errorf("Drop: %d operations, %v", len(got), err)
	}
	if l, ops, err := wal.Open(d, "w"); !slices.Equal(l, []string{"a", "b"}) || len(ops) != 0 || err != api.OK {
		t.Errorf("Open: %q, %s, %v", l, told(ops), err)
	}
	d.Files[1_000_000-1-5].Kept = frames("c") + "?"
	if l, ops, err := wal.Open(d, "w"); !slices.Equal(l, []string{"c"}) || len(ops) != 999_995 || ops[0] != dropOp("w.999999") || ops[999_993] != dropOp("w.000006") || ops[999_994] != cutOp("w.000005", 9) || err != api.OK {
		t.Errorf("Open of a torn one: %q, %d operations, %v", l, len(ops), err)
	}
}

// P5.1: Open.
func TestOpen(t *testing.T) {
	wrong := []byte(frames("wrong"))
	wrong[12]++
	for _, c := range []struct {
		name    string
		d       api.Disk
		records []string
		mends   []api.DiskOp
	}{
		{"an empty disk", of(), nil, nil},
		{"other files alone", of(kept("v.000000", "torn"), kept("w", "torn"), kept("ww.000000", "torn")), nil, nil},
		{"one record", of(kept("w.000000", frames("a"))), []string{"a"}, nil},
		{"loose ones too", of(api.File{Name: "w.000000", Kept: frames("a", ""), Loose: frames("", "b")}), []string{"a", "", "", "b"}, nil},
		{"a frame that is partly loose", of(api.File{Name: "w.000000", Kept: frames("abc")[:9], Loose: frames("abc")[9:] + frames("d")}), []string{"abc", "d"}, nil},
		{"an empty segment", of(kept("w.000000", "")), nil, nil},
		{"an empty last segment", of(kept("w.000000", frames("a")), kept("w.000001", "")), []string{"a"}, nil},
		{"an empty one between", of(kept("w.000000", frames("a")), kept("w.000001", ""), kept("w.000002", frames("b"))), []string{"a", "b"}, nil},
		{"three", of(kept("w.000000", frames("a", "b")), loose("w.000001", frames("c")), kept("w.000002", frames("d"))), []string{"a", "b", "c", "d"}, nil},
		{"three in any order", of(kept("w.000002", frames("d")), kept("w.000000", frames("a", "b")), kept("w.000001", frames("c"))), []string{"a", "b", "c", "d"}, nil},
		{"above MaxSeg", of(kept("w.000000", frames(sized(4096), sized(5000)))), []string{sized(4096), sized(5000)}, nil},
		{"behind a gap", of(kept("w.000000", frames("a")), kept("w.000002", frames("c")), kept("w.000003", "torn")), []string{"a"}, nil},
		{"no number 0", of(kept("w.000001", frames("b")), kept("w.000002", "torn")), nil, nil},
		{"bytes that are no frame", of(kept("w.000000", "no frame stands here")), nil, plan(cutOp("w.000000", 0))},
		{"a byte behind its frames", of(kept("w.000000", frames("a", "bc")+"?")), []string{"a", "bc"}, plan(cutOp("w.000000", 19))},
		{"a loose byte behind its frames", of(api.File{Name: "w.000000", Kept: frames("a", "bc"), Loose: "?"}), []string{"a", "bc"}, plan(cutOp("w.000000", 19))},
		{"a frame without its last byte", of(loose("w.000000", frames("a", "bc")[:18])), []string{"a"}, plan(cutOp("w.000000", 9))},
		{"a wrong sum", of(kept("w.000000", frames("a")+string(wrong)+frames("b"))), []string{"a"}, plan(cutOp("w.000000", 9))},
		{"torn, later ones behind it", of(kept("w.000000", frames("a")), kept("w.000001", frames("b")+"?"), kept("w.000002", frames("c")), kept("w.000003", frames("d"))), []string{"a", "b"}, plan(dropOp("w.000003"), dropOp("w.000002"), cutOp("w.000001", 9))},
		{"the first is torn", of(kept("w.000000", "?"), kept("w.000001", frames("b"))), nil, plan(dropOp("w.000001"), cutOp("w.000000", 0))},
		{"two are torn", of(kept("w.000000", frames("a")), kept("w.000001", frames("b")+"??"), kept("w.000002", frames("c")+"?")), []string{"a", "b"}, plan(dropOp("w.000002"), cutOp("w.000001", 9))},
		{"torn, an empty one behind it", of(kept("w.000000", frames("a")+"?"), kept("w.000001", "")), []string{"a"}, plan(dropOp("w.000001"), cutOp("w.000000", 9))},
		{"the last is torn", of(kept("w.000000", frames("a")), kept("w.000001", "?")), []string{"a"}, plan(cutOp("w.000001", 0))},
		{"torn, one behind a gap", of(kept("w.000000", frames("a")+"?"), kept("w.000001", frames("b")), kept("w.000003", frames("d"))), []string{"a"}, plan(dropOp("w.000001"), cutOp("w.000000", 9))},
		{"torn in any order", of(kept("w.000002", frames("c")), kept("w.000001", frames("b")), kept("w.000000", "?")), nil, plan(dropOp("w.000002"), dropOp("w.000001"), cutOp("w.000000", 0))},
		{"the first of two files of a name", of(kept("w.000000", frames("a")), kept("w.000000", "?")), []string{"a"}, nil},
		{"the first of two is torn", of(kept("w.000000", "?"), kept("w.000000", frames("a"))), nil, plan(cutOp("w.000000", 0))},
		{"the first of two is empty", of(kept("w.000000", ""), kept("w.000000", frames("a"))), nil, nil},
		{"torn, a later one twice", of(kept("w.000000", "?"), kept("w.000001", ""), kept("w.000001", "")), nil, plan(dropOp("w.000001"), cutOp("w.000000", 0))},
	} {
		got, ops, err := wal.Open(c.d, "w")
		if !slices.Equal(got, c.records) {
			t.Errorf("%s: %d records %.100q, want %.100q", c.name, len(got), got, c.records)
		}
		planned(t, c.name, ops, err, c.mends)
	}
}

// P5.1: Open of each prefix tells its own log alone.
func TestOpenOfItsPrefix(t *testing.T) {
	prefixes := []string{"a", "aa", "b", "ab", "abcdefgh", "abcdefg"}
	var d api.Disk
	for _, p := range prefixes {
		d.Files = append(d.Files, kept(p+".000000", frames(p)), loose(p+".000001", frames("", p)))
	}
	for _, p := range prefixes {
		if l, ops, err := wal.Open(d, p); !slices.Equal(l, []string{p, "", p}) || len(ops) != 0 || err != api.OK {
			t.Errorf("Open of %s: %q, %s, %v", p, l, told(ops), err)
		}
	}
}

// P5.1: Sync and Drop.
func TestSyncAndDrop(t *testing.T) {
	for _, c := range []struct {
		name  string
		d     api.Disk
		sync  []api.DiskOp
		drops []api.DiskOp
	}{
		{"an empty disk", of(), nil, nil},
		{"other files alone", of(kept("v.000000", "x"), kept("w.00000", "x")), nil, nil},
		{"one", of(loose("w.000000", frames("a"))), plan(syncOp("w.000000")), plan(dropOp("w.000000"))},
		{"one that is safe", of(kept("w.000000", frames("a"))), plan(syncOp("w.000000")), plan(dropOp("w.000000"))},
		{"an empty one", of(kept("w.000000", "")), plan(syncOp("w.000000")), plan(dropOp("w.000000"))},
		{"an empty last one", of(kept("w.000000", frames("a")), kept("w.000001", "")), plan(syncOp("w.000001")), plan(dropOp("w.000001"), dropOp("w.000000"))},
		{"three", of(kept("w.000000", ""), kept("w.000001", "torn"), loose("w.000002", "x")), plan(syncOp("w.000002")), plan(dropOp("w.000002"), dropOp("w.000001"), dropOp("w.000000"))},
		{"three in any order", of(kept("w.000002", ""), kept("w.000000", "x"), kept("w.000001", "y")), plan(syncOp("w.000002")), plan(dropOp("w.000002"), dropOp("w.000001"), dropOp("w.000000"))},
		{"behind a gap", of(kept("w.000000", "x"), kept("w.000002", "y"), kept("w.000003", "z")), plan(syncOp("w.000000")), plan(dropOp("w.000000"))},
		{"no number 0", of(kept("w.000001", "x")), nil, nil},
		{"one twice", of(kept("w.000000", "x"), kept("w.000000", "y"), kept("w.000001", "z")), plan(syncOp("w.000001")), plan(dropOp("w.000001"), dropOp("w.000000"))},
	} {
		ops, err := wal.Sync(c.d, "w")
		planned(t, "Sync: "+c.name, ops, err, c.sync)
		ops, err = wal.Drop(c.d, "w")
		planned(t, "Drop: "+c.name, ops, err, c.drops)
	}
}
