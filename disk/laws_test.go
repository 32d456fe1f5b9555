package disk_test

import (
	"math/rand"
	"slices"
	"strings"
	"testing"
	"unsafe"

	"levee/api"
	"levee/disk"
)

// A plainFile is a file told another way: its bytes, each with whether it is safe.
type plainFile struct {
	name string
	all  []plainByte
}

type plainByte struct {
	b    byte
	safe bool
}

// plain: the files of a disk, told that way.
func plain(d api.Disk) []plainFile {
	var l []plainFile
	for _, f := range d.Files {
		p := plainFile{name: f.Name}
		for _, b := range []byte(f.Kept) {
			p.all = append(p.all, plainByte{b, true})
		}
		for _, b := range []byte(f.Loose) {
			p.all = append(p.all, plainByte{b, false})
		}
		l = append(l, p)
	}
	return l
}

func unplain(l []plainFile) api.Disk {
	var d api.Disk
	for _, p := range l {
		f := api.File{Name: p.name}
		for _, c := range p.all {
			if c.safe {
				f.Kept += string([]byte{c.b})
			} else {
				f.Loose += string([]byte{c.b})
			}
		}
		d.Files = append(d.Files, f)
	}
	return d
}

// plainDo is one operation as the chapter's words tell it, where no limit is near.
func plainDo(l []plainFile, op api.DiskOp) ([]plainFile, api.Errno) {
	if op.Kind != 1 && op.Kind != 2 && op.Kind != 3 && op.Kind != 4 || strings.Trim(op.Name, "abcdefghijklmnopqrstuvwxyz0123456789.") != "" || op.Name == "" {
		return l, 1
	}
	at, greater := len(l), len(l)
	for i := len(l) - 1; i >= 0; i-- {
		if l[i].name == op.Name {
			at = i
		}
		if l[i].name > op.Name {
			greater = i
		}
	}
	if at == len(l) && op.Kind != 1 {
		return l, 30
	}
	if at == len(l) {
		at = greater
		l = append(append(append([]plainFile{}, l[:at]...), plainFile{name: op.Name}), l[at:]...)
	}
	f := &l[at]
	switch op.Kind {
	case 1:
		for _, b := range []byte(op.Bytes) {
			f.all = append(f.all, plainByte{b, false})
		}
	case 3:
		if op.At < 0 || op.At > len(f.all) {
			return l, 1
		}
		f.all = f.all[:op.At]
	case 4:
		return append(append([]plainFile{}, l[:at]...), l[at+1:]...), 0
	}
	for i := range f.all {
		f.all[i].safe = f.all[i].safe || op.Kind != 1
	}
	return l, 0
}

func someBytes(r *rand.Rand) string {
	b := make([]byte, r.Intn(6))
	for i := range b {
		b[i] = byte(r.Intn(256))
	}
	return string(b)
}

var names = []string{"a", "b", "ab", "a.0", "9", ".", "zz"}

// someDisk: few files, not always rising, some names twice.
func someDisk(r *rand.Rand) api.Disk {
	var d api.Disk
	for range r.Intn(6) {
		d.Files = append(d.Files, file(names[r.Intn(len(names))], someBytes(r), someBytes(r)))
	}
	return d
}

// someOps: most of them can be done.
func someOps(r *rand.Rand, n int) []api.DiskOp {
	ops := make([]api.DiskOp, n)
	for i := range ops {
		ops[i] = api.DiskOp{Kind: []int{1, 1, 1, 1, 2, 2, 3, 4}[r.Intn(8)], Name: names[r.Intn(len(names))], Bytes: someBytes(r), At: r.Intn(5)}
		if r.Intn(60) == 0 {
			ops[i].Kind = r.Intn(9) - 2
		}
		if r.Intn(60) == 0 {
			ops[i].Name = []string{"", "A", "a_b"}[r.Intn(3)]
		}
	}
	return ops
}

// P3.1: Do against the plain telling, operation by operation and all at once.
func TestDoAsTold(t *testing.T) {
	r := rand.New(rand.NewSource(1))
	refused, whole := 0, 0
	for range 5000 {
		d, ops := someDisk(r), someOps(r, r.Intn(12))
		l, n, want := plain(d), 0, api.OK
		for _, op := range ops {
			if l, want = plainDo(l, op); want != api.OK {
				break
			}
			n++
		}
		was, wanted := slices.Clone(d.Files), slices.Clone(ops)
		after, got, err := disk.Do(d, ops)
		if !slices.Equal(d.Files, was) || !slices.Equal(ops, wanted) {
			t.Fatalf("Do made of what was handed in %q, %#v; it was %q, %#v", d, ops, was, wanted)
		}
		if !same(after, unplain(l)) || got != n || err != want {
			t.Fatalf("Do(%q, %#v) = %q, %d, %v; want %q, %d, %v", d, ops, after, got, err, unplain(l), n, want)
		}
		if err != api.OK {
			refused++
		} else {
			whole++
		}
	}
	if refused < 500 || whole < 500 {
		t.Errorf("%d lists were refused, %d done whole", refused, whole)
	}
}

// P3.2: behind a crash the safe bytes are there, and all bytes are a beginning of what they were.
func TestSafe(t *testing.T) {
	r := rand.New(rand.NewSource(2))
	for range 3000 {
		d, _, _ := disk.Do(someDisk(r), someOps(r, r.Intn(10)))
		keep := make([]int, r.Intn(8))
		for i := range keep {
			keep[i] = r.Intn(10) - 2
		}
		crashed := disk.Crash(d, keep)
		if len(crashed.Files) != len(d.Files) {
			t.Fatalf("Crash(%q) = %q", d, crashed)
		}
		for i, f := range crashed.Files {
			was := d.Files[i]
			left := 0
			if i < len(keep) {
				left = max(0, min(keep[i], len(was.Loose)))
			}
			if f.Name != was.Name || f.Loose != "" || !strings.HasPrefix(f.Kept, was.Kept) || !strings.HasPrefix(was.Kept+was.Loose, f.Kept) || len(f.Kept) != len(was.Kept)+left {
				t.Fatalf("Crash(%q, %v) = %q", d, keep, crashed)
			}
		}
		if again := disk.Crash(crashed, []int{1, 1, 1, 1, 1, 1}); !same(again, crashed) {
			t.Fatalf("a crash of %q made %q", crashed, again)
		}
	}
}

// P3.2: what Sync and Cut made safe is there behind a crash that keeps nothing, what Drop took isn't.
func TestSyncedIsSafe(t *testing.T) {
	r := rand.New(rand.NewSource(3))
	for range 1000 {
		d, _, _ := disk.Do(someDisk(r), someOps(r, r.Intn(10)))
		for _, f := range d.Files {
			was, _ := disk.Bytes(d, f.Name)
			synced, _, _ := disk.Do(d, []api.DiskOp{syncOp(f.Name)})
			if got, err := disk.Bytes(disk.Crash(synced, nil), f.Name); got != was || err != api.OK {
				t.Fatalf("Sync of %s of %q: a crash leaves %q, %v", f.Name, d, got, err)
			}
			at := r.Intn(len(was) + 1)
			shorter, _, _ := disk.Do(d, []api.DiskOp{cutOp(f.Name, at)})
			if got, err := disk.Bytes(disk.Crash(shorter, nil), f.Name); got != was[:at] || err != api.OK {
				t.Fatalf("Cut of %s of %q at %d: a crash leaves %q, %v", f.Name, d, at, got, err)
			}
			fewer, _, _ := disk.Do(d, []api.DiskOp{dropOp(f.Name)})
			if crashed := disk.Crash(fewer, []int{9, 9, 9, 9, 9, 9, 9, 9, 9, 9, 9, 9, 9, 9, 9, 9}); len(crashed.Files) != len(d.Files)-1 {
				t.Fatalf("Drop of %s of %q: a crash leaves %q", f.Name, d, crashed)
			}
		}
	}
}

// P3.3: Do of two lists, one behind the other, is Do of both, where the first is done whole.
func TestOnAndOn(t *testing.T) {
	r := rand.New(rand.NewSource(4))
	whole := 0
	for range 3000 {
		d := someDisk(r)
		first, second := someOps(r, r.Intn(6)), someOps(r, r.Intn(6))
		between, n, err := disk.Do(d, first)
		if err != api.OK {
			continue
		}
		if n != len(first) {
			t.Fatalf("Do(%q, %#v) did %d, and was not refused", d, first, n)
		}
		whole++
		after, m, err := disk.Do(between, second)
		both, k, bothErr := disk.Do(d, slices.Concat(first, second))
		if !same(both, after) || k != n+m || bothErr != err {
			t.Fatalf("on %q: %#v, then %#v: %q, %d, %v; both: %q, %d, %v", d, first, second, after, n+m, err, both, k, bothErr)
		}
	}
	if whole < 500 {
		t.Errorf("just %d first lists were done whole", whole)
	}
}

// A room holds texts in bytes that can be changed behind the back of whoever kept one of them.
type room struct{ parts [][]byte }

func (m *room) text(s string) string {
	if s == "" {
		return ""
	}
	b := []byte(s)
	m.parts = append(m.parts, b)
	return unsafe.String(&b[0], len(b))
}

func (m *room) change() {
	for _, b := range m.parts {
		clear(b)
	}
}

// roomy: a disk whose texts lie in m, with spare room behind its files.
func roomy(m *room) api.Disk {
	files := make([]api.File, 0, 10)
	files = append(files, file(m.text("a"), m.text("12"), m.text("34")), file(m.text("b"), "", m.text("56")), file(m.text("c"), m.text("78"), ""))
	return api.Disk{Files: files}
}

// P3.1: what is handed in is neither changed, its spare room neither, nor kept; an answer is new memory.
func TestHandedIn(t *testing.T) {
	keep := []int{1, 1, 1}
	for _, c := range []struct {
		name string
		call func(m *room, d api.Disk) api.Disk
		want api.Disk
	}{
		{"Do of nothing", func(m *room, d api.Disk) api.Disk {
			after, _, _ := disk.Do(d, nil)
			return after
		}, of(file("a", "12", "34"), file("b", "", "56"), file("c", "78", ""))},
		{"Do", func(m *room, d api.Disk) api.Disk {
			ops := []api.DiskOp{appendOp("c", m.text("9")), appendOp(m.text("aa"), m.text("0")), syncOp("b"), cutOp("a", 1)}
			after, _, _ := disk.Do(d, ops)
			return after
		}, of(file("a", "1", ""), file("aa", "", "0"), file("b", "56", ""), file("c", "78", "9"))},
		{"Do with a drop", func(m *room, d api.Disk) api.Disk {
			after, _, _ := disk.Do(d, []api.DiskOp{dropOp("a"), cutOp("b", 1)})
			return after
		}, of(file("b", "5", ""), file("c", "78", ""))},
		{"Do that is refused", func(m *room, d api.Disk) api.Disk {
			after, _, _ := disk.Do(d, []api.DiskOp{syncOp("x")})
			return after
		}, of(file("a", "12", "34"), file("b", "", "56"), file("c", "78", ""))},
		{"Crash", func(m *room, d api.Disk) api.Disk { return disk.Crash(d, keep) }, of(file("a", "123", ""), file("b", "5", ""), file("c", "78", ""))},
		{"Copy", func(m *room, d api.Disk) api.Disk { return disk.Copy(d) }, of(file("a", "12", "34"), file("b", "", "56"), file("c", "78", ""))},
	} {
		var m room
		d := roomy(&m)
		got := c.call(&m, d)
		spare := d.Files[len(d.Files):cap(d.Files)]
		if !same(d, roomy(new(room))) || slices.ContainsFunc(spare, func(f api.File) bool { return f != (api.File{}) }) {
			t.Errorf("%s changed the disk that was handed in: %q", c.name, d.Files[:cap(d.Files)])
		}
		m.change()
		clear(d.Files)
		if !same(got, c.want) {
			t.Errorf("%s: %q, want %q", c.name, got, c.want)
		}
		for i := range got.Files {
			got.Files[i].Name = "changed"
		}
		if slices.ContainsFunc(d.Files, func(f api.File) bool { return f != (api.File{}) }) {
			t.Errorf("%s: what was handed in is of the answer", c.name)
		}
	}
	if !slices.Equal(keep, []int{1, 1, 1}) {
		t.Errorf("Crash changed what was to be kept: %v", keep)
	}
}

func TestBytesAreNew(t *testing.T) {
	var m room
	d := roomy(&m)
	both, _ := disk.Bytes(d, "a")
	loose, _ := disk.Bytes(d, "b")
	kept, _ := disk.Bytes(d, "c")
	m.change()
	if both != "1234" || loose != "56" || kept != "78" {
		t.Errorf("Bytes: %q, %q, %q", both, loose, kept)
	}
}
