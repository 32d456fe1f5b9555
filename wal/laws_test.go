package wal_test

import (
	"encoding/binary"
	"fmt"
	"hash/crc32"
	"math/rand"
	"slices"
	"strings"
	"testing"
	"unsafe"

	"levee/api"
	"levee/disk"
	"levee/wal"
)

// plainFrames: the strings of the frames at the beginning of s, and what stands behind them.
func plainFrames(s string) ([]string, string) {
	var l []string
	for len(s) >= 8 {
		n := uint64(binary.BigEndian.Uint32([]byte(s)))
		if n > 1<<16 || n+8 > uint64(len(s)) || crc32.ChecksumIEEE([]byte(s[:4]+s[8:8+n])) != binary.BigEndian.Uint32([]byte(s[4:])) {
			break
		}
		l, s = append(l, s[8:8+n]), s[8+n:]
	}
	return l, s
}

// plainLog: the bytes of the segments of p, asked for one by one.
func plainLog(d api.Disk, p string) []string {
	var l []string
	for i := 0; ; i++ {
		s, err := disk.Bytes(d, fmt.Sprintf("%s.%06d", p, i))
		if err != api.OK {
			return l
		}
		l = append(l, s)
	}
}

// plainOpen is Open as the chapter's words tell it.
func plainOpen(d api.Disk, p string) (records []string, mends []api.DiskOp) {
	log := plainLog(d, p)
	for i, s := range log {
		l, rest := plainFrames(s)
		records = append(records, l...)
		if rest == "" {
			continue
		}
		for j := range log {
			if j > i {
				mends = slices.Insert(mends, 0, dropOp(fmt.Sprintf("%s.%06d", p, j)))
			}
		}
		return records, append(mends, cutOp(fmt.Sprintf("%s.%06d", p, i), len(s)-len(rest)))
	}
	return records, nil
}

// plainAppend is Append as the chapter's words tell it, of a record that may be.
func plainAppend(d api.Disk, p, record string) []api.DiskOp {
	frame := binary.BigEndian.AppendUint32(nil, uint32(len(record)))
	frame = binary.BigEndian.AppendUint32(frame, crc32.ChecksumIEEE([]byte(string(frame)+record)))
	frame = append(frame, record...)
	name := func(i int) string { return fmt.Sprintf("%s.%06d", p, i) }
	log := plainLog(d, p)
	if len(log) == 0 {
		return plan(appendOp(name(0), string(frame)))
	}
	last := len(log) - 1
	if have := len(log[last]); have == 0 || have+len(frame) <= 4096 {
		return plan(appendOp(name(last), string(frame)))
	}
	return plan(syncOp(name(last)), appendOp(name(last+1), string(frame)))
}

// someRecord: mostly short, now and then one that fills a segment, or more than that.
func someRecord(r *rand.Rand) string {
	n := r.Intn(12)
	switch r.Intn(12) {
	case 0:
		n = 0
	case 1, 2:
		n = r.Intn(2500)
	case 3:
		n = 4070 + r.Intn(30)
	}
	b := make([]byte, n)
	for i := range b {
		b[i] = byte(r.Intn(256))
	}
	return string(b)
}

// someText: bytes of a segment that a log made, or that none made.
func someText(r *rand.Rand) string {
	var s string
	for range r.Intn(4) {
		s += frames(someRecord(r))
	}
	switch r.Intn(6) {
	case 0:
		s = s[:r.Intn(len(s)+1)]
	case 1:
		s += strings.Repeat("\x00", r.Intn(9))
	case 2:
		if s != "" {
			b := []byte(s)
			b[r.Intn(len(b))] ^= 1 << r.Intn(8)
			s = string(b)
		}
	}
	return s
}

// someDisk: segments of several logs in any order, some of them twice, some missing, and other files.
func someDisk(r *rand.Rand) api.Disk {
	var d api.Disk
	odd := []string{"w", "w.", "w.00000", "w.0000001", "w.00000x", "W.000000", "", "x.000001"}
	for range r.Intn(9) {
		name := fmt.Sprintf("%s.%06d", []string{"w", "w", "w", "ww"}[r.Intn(4)], r.Intn(4))
		if r.Intn(8) == 0 {
			name = odd[r.Intn(len(odd))]
		}
		s := someText(r)
		at := r.Intn(len(s) + 1)
		d.Files = append(d.Files, api.File{Name: name, Kept: s[:at], Loose: s[at:]})
	}
	return d
}

// P5.1: all calls against the plain telling, on disks that logs made and on such that none made.
func TestAsTold(t *testing.T) {
	r := rand.New(rand.NewSource(1))
	torn, grown, stepped := 0, 0, 0
	for range 8000 {
		d, record := someDisk(r), someRecord(r)
		was := slices.Clone(d.Files)
		l, ops, err := wal.Open(d, "w")
		records, mends := plainOpen(d, "w")
		if !slices.Equal(l, records) || !slices.Equal(ops, mends) || err != api.OK {
			t.Fatalf("Open of %q: %q, %s, %v; want %q, %s", d, l, told(ops), err, records, told(mends))
		}
		log := plainLog(d, "w")
		more, err := wal.Append(d, "w", record)
		want := plainAppend(d, "w", record)
		if !slices.Equal(more, want) || err != api.OK {
			t.Fatalf("Append of %q to %q: %s, %v; want %s", record, d, told(more), err, told(want))
		}
		var drops []api.DiskOp
		for i := range log {
			drops = append(plan(dropOp(fmt.Sprintf("w.%06d", i))), drops...)
		}
		all, err := wal.Drop(d, "w")
		planned(t, "Drop", all, err, drops)
		var syncs []api.DiskOp
		if len(log) > 0 {
			syncs = plan(syncOp(drops[0].Name))
		}
		some, err := wal.Sync(d, "w")
		planned(t, "Sync", some, err, syncs)
		if !slices.Equal(d.Files, was) {
			t.Fatalf("of the disk that was handed in was made %q; it was %q", d.Files, was)
		}
		torn, grown, stepped = torn+min(len(ops), 1), grown+len(log), stepped+len(more)-1
	}
	if torn < 1000 || grown < 1000 || stepped < 300 {
		t.Errorf("%d logs were torn, they had %d segments, %d appends began one", torn, grown, stepped)
	}
}

// A run is a disk with two logs that records come to, and what has to be of the log w.
type run struct {
	r        *rand.Rand
	d        api.Disk
	appended []string
	synced   int
	other    []string // the records of the log ww, of which all are safe
}

// do: the first n of the operations are done.
func (x *run) do(t *testing.T, ops []api.DiskOp, n int) {
	t.Helper()
	d, done, err := disk.Do(x.d, ops[:n])
	if err != api.OK || done != n {
		t.Fatalf("Do of %s: %d, %v", told(ops), done, err)
	}
	x.d = d
}

// write: records come to the log, some of them followed by Sync; sometimes the power fails amid the last one's plan.
func (x *run) write(t *testing.T) {
	t.Helper()
	for range x.r.Intn(12) {
		record := someRecord(x.r)
		ops, _ := wal.Append(x.d, "w", record)
		x.do(t, ops, len(ops))
		x.appended = append(x.appended, record)
		if x.r.Intn(4) == 0 {
			ops, _ = wal.Sync(x.d, "w")
			x.do(t, ops, len(ops))
			x.synced = len(x.appended)
		}
		if x.r.Intn(4) == 0 {
			ops, _ = wal.Append(x.d, "ww", record)
			x.do(t, ops, len(ops))
			ops, _ = wal.Sync(x.d, "ww")
			x.do(t, ops, len(ops))
			x.other = append(x.other, record)
		}
	}
	if x.r.Intn(2) == 0 {
		record := someRecord(x.r)
		ops, _ := wal.Append(x.d, "w", record)
		n := x.r.Intn(len(ops))
		x.do(t, ops, n)
	}
}

// crash: of each file none, some or all of the loose bytes are kept.
func (x *run) crash() {
	keep := make([]int, len(x.d.Files))
	for i, f := range x.d.Files {
		keep[i] = []int{0, len(f.Loose), x.r.Intn(len(f.Loose) + 1), x.r.Intn(len(f.Loose) + 1)}[x.r.Intn(4)]
	}
	x.d = disk.Crash(x.d, keep)
}

// open: what Open tells has to be a beginning of the records, with all that were synced; then the log is mended.
func (x *run) open(t *testing.T) {
	t.Helper()
	l, mends, err := wal.Open(x.d, "w")
	if err != api.OK || len(l) > len(x.appended) || !slices.Equal(l, x.appended[:len(l)]) || len(l) < x.synced {
		t.Fatalf("Open: %d records, %v, of %d, of which %d were synced", len(l), err, len(x.appended), x.synced)
	}
	// Where the power fails amid the plan, Open tells the same.
	x.do(t, mends, x.r.Intn(len(mends)+1))
	x.crash()
	again, mends, err := wal.Open(x.d, "w")
	if !slices.Equal(again, l) || err != api.OK {
		t.Fatalf("amid the plan: %d records, %v; %d ahead of it", len(again), err, len(l))
	}
	x.do(t, mends, len(mends))
	again, mends, err = wal.Open(x.d, "w")
	if !slices.Equal(again, l) || len(mends) != 0 || err != api.OK {
		t.Fatalf("behind the plan: %d records, %s, %v; %d ahead of it", len(again), told(mends), err, len(l))
	}
	other, mends, err := wal.Open(x.d, "ww")
	if !slices.Equal(other, x.other) || len(mends) != 0 || err != api.OK {
		t.Fatalf("the other log: %d records, %s, %v; want %d", len(other), told(mends), err, len(x.other))
	}
	x.appended, x.synced = l, len(l)
}

// P5.2, P5.3: records, crashes, and the records again, on and on.
func TestABeginning(t *testing.T) {
	r := rand.New(rand.NewSource(2))
	lost, all, segments := 0, 0, 0
	for range 1000 {
		x := &run{r: r}
		for range 1 + r.Intn(4) {
			x.write(t)
			had := len(x.appended)
			segments = max(segments, len(plainLog(x.d, "w")))
			x.crash()
			x.open(t)
			if len(x.appended) < had {
				lost++
			} else {
				all++
			}
		}
		ops, _ := wal.Drop(x.d, "w")
		x.do(t, ops, len(ops))
		if l, ops, err := wal.Open(x.d, "w"); len(l) != 0 || len(ops) != 0 || err != api.OK {
			t.Fatalf("behind Drop: %d records, %s, %v", len(l), told(ops), err)
		}
		if other, _, _ := wal.Open(x.d, "ww"); !slices.Equal(other, x.other) {
			t.Fatalf("Drop took %d of the other log's %d records", len(x.other)-len(other), len(x.other))
		}
	}
	if lost < 200 || all < 200 || segments < 8 {
		t.Errorf("%d crashes lost records, %d none; at most %d segments", lost, all, segments)
	}
}

// P5.2, P5.3: a crash that keeps just n of the loose bytes, for each n, with each number of records that are synced.
func TestEachCrash(t *testing.T) {
	records := []string{"a", sized(4000), "", "bc", sized(80), "def", ""} // the fifth one wants a segment of its own
	for synced := range len(records) + 1 {
		var d api.Disk
		do := func(ops []api.DiskOp, err api.Errno) {
			t.Helper()
			after, n, refused := disk.Do(d, ops)
			if err != api.OK || n != len(ops) || refused != api.OK {
				t.Fatalf("%s: %v, %v", told(ops), err, refused)
			}
			d = after
		}
		ends := []int{0} // how many bytes of the last segment each of its records wants, one behind the other
		for i, s := range records {
			do(wal.Append(d, "w", s))
			if i+1 == synced {
				do(wal.Sync(d, "w"))
			}
			if i >= 4 {
				ends = append(ends, len(frames(records[4:i+1]...)))
			}
		}
		last := d.Files[1]
		if len(d.Files) != 2 || d.Files[0].Loose != "" || last.Kept+last.Loose != frames(records[4:]...) {
			t.Fatalf("the records stand in %d files", len(d.Files))
		}
		for keep := range len(last.Loose) + 2 {
			left := len(last.Kept) + min(keep, len(last.Loose))
			want, whole := records[:4], 0
			for i, end := range ends {
				if end <= left {
					want, whole = records[:4+i], end
				}
			}
			crashed := disk.Crash(d, []int{0, keep})
			l, ops, err := wal.Open(crashed, "w")
			if !slices.Equal(l, want) || err != api.OK || len(l) < synced {
				t.Fatalf("%d synced, %d bytes kept: %d records, %v, want %d", synced, keep, len(l), err, len(want))
			}
			var mends []api.DiskOp
			if whole < left {
				mends = plan(cutOp("w.000001", whole))
			}
			planned(t, fmt.Sprint(synced, " synced, bytes kept: ", keep), ops, err, mends)
		}
	}
}

// A room holds texts in bytes that can be changed behind the back of whoever kept one of them.
type room struct{ parts [][]byte }

func (m *room) text(s string) string {
	if s == "" {
		return ""
	}
	b := []byte(s)
	m.parts = append(m.parts, b)
	return unsafe.String(&b[0], len(b))
}

func (m *room) change() {
	for _, b := range m.parts {
		clear(b)
	}
}

// torn: a disk whose texts lie in m, with spare room behind its files; its log w has to be mended.
func torn(m *room) api.Disk {
	files := make([]api.File, 0, 8)
	for _, f := range []api.File{
		{Name: "w.000002", Loose: frames("e")},
		{Name: "w.000000", Kept: frames("a", "bc")},
		{Name: "w.000001", Kept: frames("d") + "?"},
		{Name: "v.000000", Loose: strings.Repeat("?", 4090)},
	} {
		files = append(files, api.File{Name: m.text(f.Name), Kept: m.text(f.Kept), Loose: m.text(f.Loose)})
	}
	return api.Disk{Files: files}
}

// P5.1: what is handed in is neither changed, its spare room neither, nor kept; an answer is new memory.
func TestHandedIn(t *testing.T) {
	for _, c := range []struct {
		name    string
		call    func(d api.Disk, m *room) ([]string, []api.DiskOp, api.Errno)
		records []string
		ops     []api.DiskOp
	}{
		{"Open", func(d api.Disk, m *room) ([]string, []api.DiskOp, api.Errno) { return wal.Open(d, m.text("w")) }, []string{"a", "bc", "d"}, plan(dropOp("w.000002"), cutOp("w.000001", 9))},
		{"Append", func(d api.Disk, m *room) ([]string, []api.DiskOp, api.Errno) {
			ops, err := wal.Append(d, m.text("w"), m.text("fgh"))
			return nil, ops, err
		}, nil, plan(appendOp("w.000002", frames("fgh")))},
		{"Append to the next one", func(d api.Disk, m *room) ([]string, []api.DiskOp, api.Errno) {
			ops, err := wal.Append(d, m.text("v"), m.text("fgh"))
			return nil, ops, err
		}, nil, plan(syncOp("v.000000"), appendOp("v.000001", frames("fgh")))},
		{"Sync", func(d api.Disk, m *room) ([]string, []api.DiskOp, api.Errno) {
			ops, err := wal.Sync(d, m.text("w"))
			return nil, ops, err
		}, nil, plan(syncOp("w.000002"))},
		{"Drop", func(d api.Disk, m *room) ([]string, []api.DiskOp, api.Errno) {
			ops, err := wal.Drop(d, m.text("w"))
			return nil, ops, err
		}, nil, plan(dropOp("w.000002"), dropOp("w.000001"), dropOp("w.000000"))},
		{"Name", func(d api.Disk, m *room) ([]string, []api.DiskOp, api.Errno) {
			return []string{wal.Name(m.text("w"), 1)}, nil, api.OK
		}, []string{"w.000001"}, nil},
	} {
		var m room
		d := torn(&m)
		l, ops, err := c.call(d, &m)
		spare := d.Files[len(d.Files):cap(d.Files)]
		if !slices.Equal(d.Files, torn(new(room)).Files) || slices.ContainsFunc(spare, func(f api.File) bool { return f != (api.File{}) }) {
			t.Errorf("%s changed the disk that was handed in: %q", c.name, d.Files[:cap(d.Files)])
		}
		m.change()
		clear(d.Files)
		if !slices.Equal(l, c.records) {
			t.Errorf("%s: %q, want %q", c.name, l, c.records)
		}
		planned(t, c.name, ops, err, c.ops)
	}
}
