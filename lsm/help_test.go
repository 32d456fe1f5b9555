package lsm_test

import (
	"fmt"
	"slices"
	"strings"
	"testing"

	"levee/api"
	"levee/code"
	"levee/disk"
	"levee/lsm"
	"levee/table"
	"levee/wal"
)

// of: the disk of these files.
func of(files ...api.File) api.Disk { return api.Disk{Files: files} }

func kept(name, bytes string) api.File { return api.File{Name: name, Kept: bytes} }

func loose(name, bytes string) api.File { return api.File{Name: name, Loose: bytes} }

func appendOp(name, bytes string) api.DiskOp {
	return api.DiskOp{Kind: api.Append, Name: name, Bytes: bytes}
}

func syncOp(name string) api.DiskOp { return api.DiskOp{Kind: api.Sync, Name: name} }

func cutOp(name string, at int) api.DiskOp { return api.DiskOp{Kind: api.Cut, Name: name, At: at} }

func dropOp(name string) api.DiskOp { return api.DiskOp{Kind: api.Drop, Name: name} }

func plan(ops ...api.DiskOp) []api.DiskOp { return ops }

func set(key, value string) api.Change { return api.Change{Key: key, Value: value} }

func gone(key string) api.Change { return api.Change{Key: key, Gone: true} }

func batch(l ...api.Change) []api.Change { return l }

func pair(key, value string) api.Pair { return api.Pair{Key: key, Value: value} }

// pack: Pack of fields that may be.
func pack(fields ...string) string {
	s, err := code.Pack(fields)
	if err != api.OK {
		panic(err)
	}
	return s
}

// frames: the frames of the records, one behind the other.
func frames(records ...string) string {
	var all strings.Builder
	for _, r := range records {
		f, err := code.Frame(r)
		if err != api.OK {
			panic(err)
		}
		all.WriteString(f)
	}
	return all.String()
}

// record: the log's record of a batch.
func record(l ...api.Change) string {
	var fields []string
	for _, c := range l {
		if c.Gone {
			fields = append(fields, "d", c.Key, "")
		} else {
			fields = append(fields, "p", c.Key, c.Value)
		}
	}
	return pack(fields...)
}

// logged: the bytes of a log of these batches.
func logged(batches ...[]api.Change) string {
	var all string
	for _, l := range batches {
		all += frames(record(l...))
	}
	return all
}

// tabled: the table of these pairs, whose values stand as they are.
func tabled(pairs ...api.Pair) string {
	s, err := table.Build(pairs)
	if err != api.OK {
		panic(err)
	}
	return s
}

// marked: the bytes of a manifest: each word is a letter and a table's name.
func marked(words ...string) string {
	var all string
	for _, w := range words {
		all += frames(pack(w[:1], w[1:]))
	}
	return all
}

// sized: n bytes.
func sized(n int) string { return strings.Repeat("v", n) }

// key: a key by its number, rising.
func key(i int) string { return fmt.Sprintf("k%05d", i) }

// many: changes of n keys from number from on.
func many(from, n int) []api.Change {
	var l []api.Change
	for i := range n {
		l = append(l, set(key(from+i), "v"))
	}
	return l
}

// same: are the stores alike, all of them?
func same(a, b api.Store) bool {
	return slices.Equal(a.Disk.Files, b.Disk.Files) && slices.Equal(a.Mem, b.Mem) &&
		slices.Equal(a.Tables, b.Tables) && a.Gen == b.Gen && a.Marks == b.Marks
}

// told: what is to be seen of a store, short enough for a failure's line.
func told(s api.Store) string {
	var out strings.Builder
	fmt.Fprintf(&out, "gen %d, marks %d, tables %q, %d changes %.200q, files", s.Gen, s.Marks, s.Tables, len(s.Mem), fmt.Sprint(s.Mem))
	for _, f := range s.Disk.Files {
		fmt.Fprintf(&out, " [%q %d+%d bytes]", f.Name, len(f.Kept), len(f.Loose))
	}
	return out.String()
}

// toldOps: the lengths and beginnings of operations.
func toldOps(ops []api.DiskOp) string {
	var out strings.Builder
	for _, op := range ops {
		fmt.Fprintf(&out, "[%d %q %d bytes %.20q at %d]", op.Kind, op.Name, len(op.Bytes), op.Bytes, op.At)
	}
	return out.String()
}

// A call is one that answers a store.
type call func(s api.Store) (api.Store, []api.DiskOp, api.Errno)

func write(l ...api.Change) call {
	return func(s api.Store) (api.Store, []api.DiskOp, api.Errno) { return lsm.Write(s, l) }
}

func open(s api.Store) (api.Store, []api.DiskOp, api.Errno) { return lsm.Open(s.Disk) }

// done: the store behind the calls, each of which has to be OK and to tell what it did to the disk.
func done(t *testing.T, s api.Store, calls ...call) api.Store {
	t.Helper()
	for _, c := range calls {
		s, _ = did(t, s, c)
	}
	return s
}

// did: as done, of one call, and its operations.
func did(t *testing.T, s api.Store, c call) (api.Store, []api.DiskOp) {
	t.Helper()
	next, ops, err := c(s)
	if err != api.OK {
		t.Fatalf("error %d; the store ahead: %s", err, told(s))
	}
	d, n, err := disk.Do(s.Disk, ops)
	if n != len(ops) || err != api.OK || !slices.Equal(d.Files, next.Disk.Files) {
		t.Fatalf("%s do not make the disk that was answered: %d, %v", toldOps(ops), n, err)
	}
	return next, ops
}

// is: does the call answer just this store and these operations?
func is(t *testing.T, name string, s api.Store, c call, want api.Store, ops []api.DiskOp) {
	t.Helper()
	got, made, err := c(s)
	if err != api.OK || !same(got, want) || !slices.Equal(made, ops) {
		t.Errorf("%s: %v\n got %s %s\nwant %s %s", name, err, told(got), toldOps(made), told(want), toldOps(ops))
	}
}

// refused: does the call answer just this error?
func refused(t *testing.T, name string, s api.Store, c call, want api.Errno) {
	t.Helper()
	was := lsm.Copy(s)
	got, ops, err := c(s)
	if err != want || !same(got, api.Store{}) || len(ops) != 0 {
		t.Errorf("%s: error %d, %s, %s; want %d", name, err, told(got), toldOps(ops), want)
	}
	if !same(s, was) {
		t.Errorf("%s changed the store that was handed in", name)
	}
}

// holds: do Range and Get tell just these pairs?
func holds(t *testing.T, name string, s api.Store, want ...api.Pair) {
	t.Helper()
	if got := all(s); !slices.Equal(got, want) {
		t.Errorf("%s holds %.300q, want %.300q", name, got, want)
	}
	for _, p := range want {
		if v, ok := lsm.Get(s, p.Key); v != p.Value || !ok {
			t.Errorf("%s: Get(%q) is %.40q, %v; want %.40q", name, p.Key, v, ok, p.Value)
		}
	}
	lacks(t, name, s, "", "nobody", "\xff\xff")
}

// lacks: does Get find none of the keys?
func lacks(t *testing.T, name string, s api.Store, keys ...string) {
	t.Helper()
	for _, k := range keys {
		if v, ok := lsm.Get(s, k); v != "" || ok {
			t.Errorf("%s: Get(%q) is %.40q, %v; want none", name, k, v, ok)
		}
	}
}

// all: what the store holds, of keys below three bytes ff.
func all(s api.Store) []api.Pair { return lsm.Range(s, "", "\xff\xff\xff") }

// segment: the name of a segment of the log of generation 0.
func segment(i int) string { return wal.Name("waaaaa", i) }
