package disk_test

import (
	"math"
	"slices"
	"strconv"
	"strings"
	"testing"

	"levee/api"
	"levee/disk"
)

// same: are the files of both disks alike, in their order?
func same(a, b api.Disk) bool { return slices.Equal(a.Files, b.Files) }

// of: the disk of these files.
func of(files ...api.File) api.Disk { return api.Disk{Files: files} }

func file(name, kept, loose string) api.File {
	return api.File{Name: name, Kept: kept, Loose: loose}
}

func appendOp(name, bytes string) api.DiskOp {
	return api.DiskOp{Kind: api.Append, Name: name, Bytes: bytes}
}

func syncOp(name string) api.DiskOp { return api.DiskOp{Kind: api.Sync, Name: name} }

func cutOp(name string, at int) api.DiskOp { return api.DiskOp{Kind: api.Cut, Name: name, At: at} }

func dropOp(name string) api.DiskOp { return api.DiskOp{Kind: api.Drop, Name: name} }

// filled: a disk of n empty files f000, f001, ..
func filled(n int) api.Disk {
	var d api.Disk
	for i := range n {
		d.Files = append(d.Files, api.File{Name: "f" + strconv.Itoa(1000 + i)[1:]})
	}
	return d
}

// P3.1: Name.
func TestName(t *testing.T) {
	for _, c := range []struct {
		s    string
		want bool
	}{
		{"", false},
		{"a", true},
		{"z", true},
		{"0", true},
		{"9", true},
		{".", true},
		{"..", true},
		{"waaaaa.000000", true},
		{"abcdefghijklmnopqrstuvwxyz", true},
		{"0123456789.", true},
		{strings.Repeat("a", 32), true},
		{strings.Repeat("a", 33), false},
		{strings.Repeat("a", 1<<20), false},
		{"X", false},
		{"aX", false},
		{"Xa", false},
		{"a b", false},
		{"a\x00", false},
		{"a/b", false},
		{"a-b", false},
		{"é", false},
		{"a\xff", false},
		{strings.Repeat("a", 31) + "A", false},
	} {
		if got := disk.Name(c.s); got != c.want {
			t.Errorf("Name(%q) = %v", c.s, got)
		}
	}
}

func TestNameLooksAtEachByte(t *testing.T) {
	for c := range 256 {
		b := byte(c)
		want := strings.IndexByte("abcdefghijklmnopqrstuvwxyz0123456789.", b) >= 0
		for _, s := range []string{string([]byte{b}), string([]byte{b, 'a', '0'}), string([]byte{'a', b, '0'}), string([]byte{'a', '0', b})} {
			if got := disk.Name(s); got != want {
				t.Errorf("Name(%q) = %v", s, got)
			}
		}
	}
	for n := range 100 {
		if got := disk.Name(strings.Repeat(".", n)); got != (1 <= n && n <= 32) {
			t.Errorf("Name of %d points = %v", n, got)
		}
	}
}

// P3.1: the chapter's examples.
func TestExamples(t *testing.T) {
	d, n, err := disk.Do(api.Disk{}, []api.DiskOp{appendOp("x", "ab"), syncOp("x"), appendOp("x", "cd")})
	if !same(d, of(file("x", "ab", "cd"))) || n != 3 || err != api.OK {
		t.Fatalf("Do = %q, %d, %v", d, n, err)
	}
	if s, err := disk.Bytes(d, "x"); s != "abcd" || err != api.OK {
		t.Errorf("Bytes = %q, %v", s, err)
	}
	crashed := disk.Crash(d, []int{1})
	if s, _ := disk.Bytes(crashed, "x"); s != "abc" || !same(crashed, of(file("x", "abc", ""))) {
		t.Errorf("Crash = %q", crashed)
	}
	if after, n, err := disk.Do(d, []api.DiskOp{cutOp("x", 5)}); !same(after, d) || n != 0 || err != api.ErrArg {
		t.Errorf("Cut at 5: %q, %d, %v", after, n, err)
	}
	if after, n, err := disk.Do(d, []api.DiskOp{appendOp("X", "ab")}); !same(after, d) || n != 0 || err != api.ErrArg {
		t.Errorf("Append to X: %q, %d, %v", after, n, err)
	}
}

// done: what one operation makes of d; it has to be taken.
func done(t *testing.T, d api.Disk, op api.DiskOp) api.Disk {
	t.Helper()
	after, n, err := disk.Do(d, []api.DiskOp{op})
	if n != 1 || err != api.OK {
		t.Fatalf("Do(%q, %#v): %d, %v", d, op, n, err)
	}
	return after
}

// P3.1: each operation. What has no meaning in an operation (At of Append, Bytes of the others) counts for nothing.
func TestDo(t *testing.T) {
	for _, c := range []struct {
		name   string
		before api.Disk
		op     api.DiskOp
		after  api.Disk
	}{
		{"Append to a new file", of(), appendOp("x", "ab"), of(file("x", "", "ab"))},
		{"Append of nothing to a new file", of(), appendOp("x", ""), of(file("x", "", ""))},
		{"Append behind safe bytes", of(file("x", "ab", "")), appendOp("x", "cd"), of(file("x", "ab", "cd"))},
		{"Append behind loose bytes", of(file("x", "ab", "cd")), appendOp("x", "ef"), of(file("x", "ab", "cdef"))},
		{"Append of nothing", of(file("x", "ab", "cd")), appendOp("x", ""), of(file("x", "ab", "cd"))},
		{"Append of any bytes", of(file("x", "\xff", "\x00")), appendOp("x", "\x80\n"), of(file("x", "\xff", "\x00\x80\n"))},
		{"Append with an At", of(file("x", "a", "")), api.DiskOp{Kind: api.Append, Name: "x", Bytes: "b", At: -7}, of(file("x", "a", "b"))},
		{"Append to the first of two", of(file("a", "", ""), file("x", "1", ""), file("x", "2", "")), appendOp("x", "b"), of(file("a", "", ""), file("x", "1", "b"), file("x", "2", ""))},
		{"a new file ahead of all", of(file("b", "1", ""), file("c", "", "2")), appendOp("a", "x"), of(file("a", "", "x"), file("b", "1", ""), file("c", "", "2"))},
		{"a new file between", of(file("b", "1", ""), file("c", "", "2")), appendOp("bb", "x"), of(file("b", "1", ""), file("bb", "", "x"), file("c", "", "2"))},
		{"a new file behind all", of(file("b", "1", ""), file("c", "", "2")), appendOp("d", "x"), of(file("b", "1", ""), file("c", "", "2"), file("d", "", "x"))},
		{"names by bytes", of(file("a", "", ""), file("a1", "", ""), file("aa", "", "")), appendOp("a.", "x"), of(file("a", "", ""), file("a.", "", "x"), file("a1", "", ""), file("aa", "", ""))},
		{"the first greater one of many", of(file("m", "", ""), file("a", "", ""), file("z", "", ""), file("b", "", "")), appendOp("n", "x"), of(file("m", "", ""), file("a", "", ""), file("n", "", "x"), file("z", "", ""), file("b", "", ""))},
		{"the first is greater, the next lesser", of(file("z", "", ""), file("a", "", "")), appendOp("m", "x"), of(file("m", "", "x"), file("z", "", ""), file("a", "", ""))},
		{"Sync", of(file("w", "1", "2"), file("x", "ab", "cd"), file("y", "3", "4")), syncOp("x"), of(file("w", "1", "2"), file("x", "abcd", ""), file("y", "3", "4"))},
		{"Sync of safe bytes", of(file("x", "ab", "")), syncOp("x"), of(file("x", "ab", ""))},
		{"Sync of loose bytes alone", of(file("x", "", "cd")), syncOp("x"), of(file("x", "cd", ""))},
		{"Sync of nothing", of(file("x", "", "")), syncOp("x"), of(file("x", "", ""))},
		{"Sync of the first of two", of(file("x", "1", "2"), file("x", "3", "4")), syncOp("x"), of(file("x", "12", ""), file("x", "3", "4"))},
		{"Sync with more", of(file("x", "1", "2")), api.DiskOp{Kind: api.Sync, Name: "x", Bytes: "zz", At: 99}, of(file("x", "12", ""))},
		{"Cut at 0", of(file("x", "ab", "cd")), cutOp("x", 0), of(file("x", "", ""))},
		{"Cut in the safe bytes", of(file("x", "ab", "cd")), cutOp("x", 1), of(file("x", "a", ""))},
		{"Cut behind the safe bytes", of(file("x", "ab", "cd")), cutOp("x", 2), of(file("x", "ab", ""))},
		{"Cut in the loose bytes", of(file("x", "ab", "cd")), cutOp("x", 3), of(file("x", "abc", ""))},
		{"Cut behind all bytes", of(file("x", "ab", "cd")), cutOp("x", 4), of(file("x", "abcd", ""))},
		{"Cut of nothing", of(file("x", "", "")), cutOp("x", 0), of(file("x", "", ""))},
		{"Cut of the first of two", of(file("x", "12", ""), file("x", "34", "")), cutOp("x", 1), of(file("x", "1", ""), file("x", "34", ""))},
		{"Cut with Bytes", of(file("x", "1", "2")), api.DiskOp{Kind: api.Cut, Name: "x", Bytes: "zz", At: 1}, of(file("x", "1", ""))},
		{"Drop", of(file("w", "1", ""), file("x", "ab", "cd"), file("y", "", "2")), dropOp("x"), of(file("w", "1", ""), file("y", "", "2"))},
		{"Drop of the only one", of(file("x", "ab", "cd")), dropOp("x"), of()},
		{"Drop of the first of two", of(file("x", "1", ""), file("y", "2", ""), file("x", "3", "")), dropOp("x"), of(file("y", "2", ""), file("x", "3", ""))},
		{"Drop with more", of(file("x", "1", "")), api.DiskOp{Kind: api.Drop, Name: "x", Bytes: "zz", At: -1}, of()},
	} {
		if after := done(t, c.before, c.op); !same(after, c.after) {
			t.Errorf("%s: %q, want %q", c.name, after, c.after)
		}
	}
}

// P3.1: the limits.
func TestDoLimits(t *testing.T) {
	full := strings.Repeat("x", 1<<20)
	if d := done(t, of(), appendOp("x", full)); !same(d, of(file("x", "", full))) {
		t.Error("2^20 bytes to a new file")
	}
	if d := done(t, of(file("x", full[:5], full[:6])), appendOp("x", full[11:])); !same(d, of(file("x", full[:5], full[5:]))) {
		t.Error("2^20 bytes in all")
	}
	if d := done(t, of(file("x", full, "")), appendOp("x", "")); !same(d, of(file("x", full, ""))) {
		t.Error("nothing more behind 2^20 bytes")
	}
	if d := done(t, filled(63), appendOp("x", "a")); len(d.Files) != 64 || d.Files[63] != file("x", "", "a") {
		t.Error("the 64th file")
	}
	if d := done(t, filled(64), appendOp("f063", "a")); len(d.Files) != 64 || d.Files[63] != file("f063", "", "a") {
		t.Error("Append to the last of 64 files")
	}
	if d := done(t, filled(100), appendOp("f099", "a")); len(d.Files) != 100 || d.Files[99] != file("f099", "", "a") {
		t.Error("Append to the last of 100 files")
	}
	d := done(t, of(file("x", full+"y", "z")), syncOp("x")) // a disk that is handed in may hold anything
	if d = done(t, d, cutOp("x", 1<<20+1)); !same(d, of(file("x", full+"y", ""))) {
		t.Error("Sync and Cut of more than 2^20 bytes")
	}
}

// P3.1: the errors, the one that the chapter names first ahead. Nothing is done by what is refused.
func TestDoRefuses(t *testing.T) {
	long := strings.Repeat("x", 1<<20+1)
	small := of(file("x", "ab", "cd"))
	odd := of(file("X", "ab", "cd"), file("", "ef", ""))
	for _, c := range []struct {
		name string
		d    api.Disk
		op   api.DiskOp
		want api.Errno
	}{
		{"Kind 0", small, api.DiskOp{Kind: 0, Name: "x"}, api.ErrArg},
		{"Kind 5", small, api.DiskOp{Kind: 5, Name: "x"}, api.ErrArg},
		{"Kind -1", small, api.DiskOp{Kind: -1, Name: "x"}, api.ErrArg},
		{"the greatest Kind", small, api.DiskOp{Kind: math.MaxInt, Name: "x"}, api.ErrArg},
		{"the least Kind", small, api.DiskOp{Kind: math.MinInt, Name: "x"}, api.ErrArg},
		{"a Kind beyond 32 bits", small, api.DiskOp{Kind: 1<<32 + api.Sync, Name: "x"}, api.ErrArg},
		{"Kind 0 of no file", small, api.DiskOp{Kind: 0, Name: "y"}, api.ErrArg},
		{"Kind 5 with all else wrong", filled(64), api.DiskOp{Kind: 5, Name: "y", Bytes: long, At: -1}, api.ErrArg},
		{"Append to no name", small, appendOp("", "a"), api.ErrArg},
		{"Append to a wrong name that is there", odd, appendOp("X", "a"), api.ErrArg},
		{"Append to a wrong name, full, too long", filled(64), appendOp("X", long), api.ErrArg},
		{"Append to a name of 33", small, appendOp(strings.Repeat("a", 33), "a"), api.ErrArg},
		{"Sync of a wrong name that is there", odd, syncOp("X"), api.ErrArg},
		{"Sync of a wrong name", small, syncOp("a b"), api.ErrArg},
		{"Cut of a wrong name that is there", odd, cutOp("", 1), api.ErrArg},
		{"Drop of a wrong name that is there", odd, dropOp(""), api.ErrArg},
		{"Drop of a wrong name", small, dropOp("X"), api.ErrArg},
		{"a 65th file", filled(64), appendOp("x", ""), api.ErrFull},
		{"a file behind 100", filled(100), appendOp("x", "a"), api.ErrFull},
		{"a 65th file, too long", filled(64), appendOp("x", long), api.ErrFull},
		{"a new file too long", small, appendOp("y", long), api.ErrLong},
		{"the 64th file too long", filled(63), appendOp("y", long), api.ErrLong},
		{"too long for a file of 64", filled(64), appendOp("f000", long), api.ErrLong},
		{"too long with safe bytes", of(file("x", long[:1<<20], "")), appendOp("x", "a"), api.ErrLong},
		{"too long with loose bytes", of(file("x", "", long[:1<<20])), appendOp("x", "a"), api.ErrLong},
		{"too long with both", of(file("x", long[:1<<19], long[:1<<18])), appendOp("x", long[:1<<18+1]), api.ErrLong},
		{"too long ahead of it", of(file("x", long, "")), appendOp("x", ""), api.ErrLong},
		{"Sync of no file", small, syncOp("y"), api.ErrDisk},
		{"Cut of no file", small, cutOp("y", 0), api.ErrDisk},
		{"Cut of no file, below 0", small, cutOp("y", -1), api.ErrDisk},
		{"Drop of no file", small, dropOp("y"), api.ErrDisk},
		{"Drop on an empty disk", of(), dropOp("x"), api.ErrDisk},
		{"Sync of a longer name", small, syncOp("xx"), api.ErrDisk},
		{"Cut below 0", small, cutOp("x", -1), api.ErrArg},
		{"Cut beyond its bytes", small, cutOp("x", 5), api.ErrArg},
		{"Cut far below", small, cutOp("x", math.MinInt), api.ErrArg},
		{"Cut far beyond", small, cutOp("x", math.MaxInt), api.ErrArg},
		{"Cut at 1 of nothing", of(file("x", "", "")), cutOp("x", 1), api.ErrArg},
		{"Cut beyond the first of two", of(file("x", "", ""), file("x", "ab", "")), cutOp("x", 1), api.ErrArg},
	} {
		after, n, err := disk.Do(c.d, []api.DiskOp{c.op})
		if !same(after, c.d) || n != 0 || err != c.want {
			t.Errorf("%s: %d files, %d, %v; want %v", c.name, len(after.Files), n, err, c.want)
		}
	}
}

// P3.1: what was done ahead of a refused operation stays; what stands behind it isn't done.
func TestDoUpToTheRefused(t *testing.T) {
	for _, c := range []struct {
		name string
		ops  []api.DiskOp
		d    api.Disk
		n    int
		err  api.Errno
	}{
		{"nothing to do", nil, of(file("x", "", "a")), 0, api.OK},
		{"no operation", []api.DiskOp{}, of(file("x", "", "a")), 0, api.OK},
		{"the first is refused", []api.DiskOp{dropOp("y"), syncOp("x")}, of(file("x", "", "a")), 0, api.ErrDisk},
		{"the second", []api.DiskOp{syncOp("x"), cutOp("x", 2), dropOp("x")}, of(file("x", "a", "")), 1, api.ErrArg},
		{"the last", []api.DiskOp{appendOp("w", "b"), appendOp("x", "c"), {}}, of(file("w", "", "b"), file("x", "", "ac")), 2, api.ErrArg},
		{"two are wrong", []api.DiskOp{syncOp("x"), syncOp("y"), syncOp("Y")}, of(file("x", "a", "")), 1, api.ErrDisk},
		{"dropped and wanted", []api.DiskOp{dropOp("x"), syncOp("x")}, of(), 1, api.ErrDisk},
		{"dropped and made", []api.DiskOp{dropOp("x"), appendOp("x", "b"), syncOp("x")}, of(file("x", "b", "")), 3, api.OK},
		{"cut and cut", []api.DiskOp{appendOp("x", "bcd"), cutOp("x", 3), cutOp("x", 4)}, of(file("x", "abc", "")), 2, api.ErrArg},
	} {
		d, n, err := disk.Do(of(file("x", "", "a")), c.ops)
		if !same(d, c.d) || n != c.n || err != c.err {
			t.Errorf("%s: %q, %d, %v; want %q, %d, %v", c.name, d, n, err, c.d, c.n, c.err)
		}
	}
	ops := make([]api.DiskOp, 66)
	for i := range ops {
		ops[i] = appendOp(filled(66).Files[i].Name, "")
	}
	if d, n, err := disk.Do(of(), ops); !same(d, filled(64)) || n != 64 || err != api.ErrFull {
		t.Errorf("66 new files: %d files, %d, %v", len(d.Files), n, err)
	}
}

// P3.1: a file filled to its limit by short Appends, with Syncs among them, and one byte more.
func TestDoFills(t *testing.T) {
	var ops []api.DiskOp
	for i := range 1 << 16 {
		ops = append(ops, appendOp("x", strings.Repeat(string(rune('a'+i%26)), 16)))
		if i%100 == 0 {
			ops = append(ops, syncOp("x"))
		}
	}
	whole := len(ops)
	d, n, err := disk.Do(of(), append(ops, appendOp("x", ""), appendOp("x", "a")))
	if n != whole+1 || err != api.ErrLong || len(d.Files) != 1 {
		t.Fatalf("%d files, %d, %v", len(d.Files), n, err)
	}
	var want strings.Builder
	for _, op := range ops {
		want.WriteString(op.Bytes)
	}
	safe := (1<<16-1)/100*100*16 + 16
	if f := d.Files[0]; f != file("x", want.String()[:safe], want.String()[safe:]) {
		t.Errorf("%d safe bytes, %d loose ones, want %d and %d", len(f.Kept), len(f.Loose), safe, want.Len()-safe)
	}
}

// P3.1: Bytes.
func TestBytes(t *testing.T) {
	d := of(file("x", "ab", "cd"), file("y", "", "ef"), file("x", "gh", ""), file("z", "ij", ""), file("e", "", ""), file("X", "k", "\x00"))
	for _, c := range []struct {
		name, want string
		err        api.Errno
	}{
		{"x", "abcd", api.OK},
		{"y", "ef", api.OK},
		{"z", "ij", api.OK},
		{"e", "", api.OK},
		{"X", "k\x00", api.OK},
		{"w", "", api.ErrDisk},
		{"xx", "", api.ErrDisk},
		{"", "", api.ErrDisk},
	} {
		if got, err := disk.Bytes(d, c.name); got != c.want || err != c.err {
			t.Errorf("Bytes of %q = %q, %v; want %q, %v", c.name, got, err, c.want, c.err)
		}
	}
	if got, err := disk.Bytes(api.Disk{}, "x"); got != "" || err != api.ErrDisk {
		t.Errorf("Bytes of an empty disk = %q, %v", got, err)
	}
}

// P3.1, P3.2: Crash.
func TestCrash(t *testing.T) {
	d := of(file("x", "ab", "cd"), file("y", "", "efg"), file("z", "h", ""), file("x", "i", "jk"))
	none := of(file("x", "ab", ""), file("y", "", ""), file("z", "h", ""), file("x", "i", ""))
	all := of(file("x", "abcd", ""), file("y", "efg", ""), file("z", "h", ""), file("x", "ijk", ""))
	for _, c := range []struct {
		name string
		keep []int
		want api.Disk
	}{
		{"no numbers", nil, none},
		{"noughts", []int{0, 0, 0, 0}, none},
		{"below 0", []int{-1, -2, math.MinInt, -3}, none},
		{"some", []int{1, 2, 0, 1}, of(file("x", "abc", ""), file("y", "ef", ""), file("z", "h", ""), file("x", "ij", ""))},
		{"all", []int{2, 3, 0, 2}, all},
		{"beyond", []int{3, 100, 1, math.MaxInt}, all},
		{"too few", []int{2}, of(file("x", "abcd", ""), file("y", "", ""), file("z", "h", ""), file("x", "i", ""))},
		{"too many", []int{2, 3, 0, 2, 7, -7}, all},
		{"below 0 and beyond", []int{-1, 4, -1, 1}, of(file("x", "ab", ""), file("y", "efg", ""), file("z", "h", ""), file("x", "ij", ""))},
	} {
		if got := disk.Crash(d, c.keep); !same(got, c.want) {
			t.Errorf("%s: %q, want %q", c.name, got, c.want)
		}
	}
	if got := disk.Crash(api.Disk{}, []int{1, 2}); !same(got, api.Disk{}) {
		t.Errorf("of an empty disk: %q", got)
	}
}

// P3.1: Copy.
func TestCopy(t *testing.T) {
	for _, d := range []api.Disk{
		{},
		of(file("x", "ab", "cd")),
		of(file("z", "", "\xff"), file("", "", ""), file("a", "\x00", ""), file("a", "b", "c")),
		filled(100),
	} {
		if got := disk.Copy(d); !same(got, d) {
			t.Errorf("Copy(%q) = %q", d, got)
		}
	}
}
