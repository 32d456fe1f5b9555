package lsm_test

import (
	"fmt"
	"maps"
	"math/rand"
	"slices"
	"strings"
	"testing"
	"unsafe"

	"levee/api"
	"levee/disk"
	"levee/lsm"
	"levee/table"
	"levee/wal"
)

// A model is what a map holds.
type model map[string]string

func (m model) after(l []api.Change) model {
	m = maps.Clone(m)
	for _, c := range l {
		if c.Gone {
			delete(m, c.Key)
		} else {
			m[c.Key] = c.Value
		}
	}
	return m
}

func (m model) pairs() []api.Pair {
	var l []api.Pair
	for _, k := range slices.Sorted(maps.Keys(m)) {
		l = append(l, pair(k, m[k]))
	}
	return l
}

// someChanges: mostly a few short ones of few keys, now and then one that fills a good part of a segment.
func someChanges(r *rand.Rand) []api.Change {
	var l []api.Change
	for range 1 + r.Intn(4) {
		k := string(rune('a' + r.Intn(8)))
		switch r.Intn(10) {
		case 0, 1, 2:
			l = append(l, gone(k))
		case 3:
			l = append(l, set(k, sized(1000+r.Intn(3000))))
		case 4:
			l = append(l, set(k, ""))
		default:
			l = append(l, set(k, fmt.Sprint(r.Intn(1000))))
		}
	}
	return l
}

// A run is a store that calls come to, and what it has to hold.
type run struct {
	r      *rand.Rand
	s      api.Store
	states []model // what the map holds behind no batch, behind one, and so on
	safe   int     // how many batches no crash may take
	apart  bool    // no Merge but where there are 16 tables
}

func newRun(r *rand.Rand) *run { return &run{r: r, states: []model{{}}} }

// step: one call; it answers how many batches are safe behind it.
func (x *run) step(t *testing.T) (before api.Store, ops []api.DiskOp, safe int) {
	t.Helper()
	before, safe = x.s, x.safe
	held := x.states[len(x.states)-1]
	c := call(nil)
	switch x.r.Intn(10) {
	case 0, 1:
		c, safe = lsm.Safe, len(x.states)-1
	case 2, 3:
		// Where it's refused, all of it is left as it was.
		if len(x.s.Tables) >= 16 {
			refused(t, "Flush with 16 tables", x.s, lsm.Flush, api.ErrFull)
			c = lsm.Merge
			break
		}
		c, safe = lsm.Flush, len(x.states)-1
	case 4:
		c = lsm.Merge
		if x.apart && len(x.s.Tables) < 16 {
			c = lsm.Safe
			safe = len(x.states) - 1
		}
	default:
		l := someChanges(x.r)
		c, held = write(l...), held.after(l)
		x.states = append(x.states, held)
	}
	x.s, ops = did(t, x.s, c)
	holds(t, "a store", x.s, held.pairs()...)
	return before, ops, safe
}

// keeps: what crashes may keep of the files: none, all, and of each file with loose bytes so many, the others none or all.
func keeps(r *rand.Rand, d api.Disk) [][]int {
	none, most := make([]int, len(d.Files)), make([]int, len(d.Files))
	for i, f := range d.Files {
		most[i] = len(f.Loose)
	}
	l := [][]int{none, most}
	for i, f := range d.Files {
		for n := range len(f.Loose) {
			if len(f.Loose) > 60 && r.Intn(len(f.Loose)) > 20 {
				continue
			}
			a, b := slices.Clone(none), slices.Clone(most)
			a[i], b[i] = n, n
			l = append(l, a, b)
		}
	}
	return l
}

// opened: Open of the disk is OK, holds what a beginning of the batches makes, with all that are safe; how many these are.
func (x *run) opened(t *testing.T, d api.Disk, safe int) (api.Store, []api.DiskOp) {
	t.Helper()
	s, ops, err := lsm.Open(d)
	if err != api.OK {
		t.Fatalf("Open: %v; the disk: %s", err, told(api.Store{Disk: d}))
	}
	got := all(s)
	for i := safe; i < len(x.states); i++ {
		if slices.Equal(got, x.states[i].pairs()) {
			return s, ops
		}
	}
	t.Fatalf("%.300q is no beginning of %d batches with the first %d; the disk: %s", got, len(x.states)-1, safe, told(api.Store{Disk: d}))
	return s, ops
}

// again: P7.3, P7.4: Open of what Open mended answers the same, with nothing to do.
func again(t *testing.T, s api.Store) {
	t.Helper()
	same, ops, err := lsm.Open(s.Disk)
	if len(ops) != 0 || err != api.OK || told(same) != told(s) || !slices.Equal(same.Disk.Files, s.Disk.Files) {
		t.Fatalf("Open again: %v, %s, %s; want %s", err, toldOps(ops), told(same), told(s))
	}
}

// P7.2, P7.4: each beginning of each call's operations, crashes that keep any bytes, and Open, whose operations crash too.
func TestKept(t *testing.T) {
	r := rand.New(rand.NewSource(1))
	crashes, lost, mended := 0, 0, 0
	for range 30 {
		x := newRun(r)
		for range 12 {
			before, ops, safe := x.step(t)
			for n := range len(ops) + 1 {
				d, _, err := disk.Do(before.Disk, ops[:n])
				if err != api.OK {
					t.Fatalf("%s: %v", toldOps(ops[:n]), err)
				}
				sure := x.safe
				if n == len(ops) {
					sure = safe
				}
				for _, keep := range keeps(r, d) {
					crashed := disk.Crash(d, keep)
					s, mends := x.opened(t, crashed, sure)
					again(t, s)
					crashes, mended = crashes+1, mended+len(mends)
					if len(all(s)) != len(x.states[len(x.states)-1]) {
						lost++
					}
					amid, _, _ := disk.Do(crashed, mends[:r.Intn(len(mends)+1)])
					other, _ := x.opened(t, disk.Crash(amid, nil), sure)
					if !same(other, s) {
						t.Fatalf("Open amid Open's operations: %s, want %s", told(other), told(s))
					}
				}
			}
			x.safe = safe
		}
	}
	if crashes < 10000 || lost < 500 || mended < 5000 {
		t.Errorf("%d crashes, %d lost batches, %d operations of Open", crashes, lost, mended)
	}
}

// P7.2: a life with many crashes: what Open found is what goes on.
func TestCrashesOnAndOn(t *testing.T) {
	r := rand.New(rand.NewSource(2))
	for range 150 {
		x := newRun(r)
		for range 12 {
			var before api.Store
			var ops []api.DiskOp
			safe := 0
			for range 1 + r.Intn(8) {
				if ops != nil {
					x.safe = safe
				}
				before, ops, safe = x.step(t)
			}
			n := r.Intn(len(ops) + 1)
			if n == len(ops) {
				x.safe = safe
			}
			d, _, _ := disk.Do(before.Disk, ops[:n])
			ways := keeps(r, d)
			x.s, _ = x.opened(t, disk.Crash(d, ways[r.Intn(len(ways))]), x.safe)
			again(t, x.s)
			held := model{}
			for _, p := range all(x.s) {
				held[p.Key] = p.Value
			}
			x.states, x.safe = []model{held}, 0
		}
	}
}

// P7.3: Flush and Merge change nothing of what the map holds; Open of a store's disk is the store.
func TestTheSame(t *testing.T) {
	r := rand.New(rand.NewSource(3))
	full, merged := 0, 0
	for i := range 24 {
		x := newRun(r)
		x.apart = i%2 == 0
		for range 100 {
			x.step(t)
			held := all(x.s)
			next, ops, err := lsm.Open(x.s.Disk)
			if err != api.OK || !same(next, x.s) || len(ops) != 0 {
				t.Fatalf("Open: %v, %s, %s; want %s", err, told(next), toldOps(ops), told(x.s))
			}
			calls := []call{lsm.Merge, lsm.Safe, lsm.Flush}
			if len(x.s.Tables) == 16 {
				calls, full = calls[:2], full+1
			}
			for _, c := range calls {
				next, ops = did(t, x.s, c)
				if !slices.Equal(all(next), held) {
					t.Fatalf("%s changed what the map holds: %q, it was %q", toldOps(ops), all(next), held)
				}
			}
			merged = max(merged, x.s.Marks-x.s.Gen)
		}
	}
	if full == 0 || merged < 3 {
		t.Errorf("16 tables %d times, at most %d merges", full, merged)
	}
}

// plainRecords: the records of the log of p, and the disk as its mending leaves it.
func plainRecords(d api.Disk, p string) ([]string, api.Disk, []api.DiskOp) {
	l, ops, _ := wal.Open(d, p)
	d, _, _ = disk.Do(d, ops)
	return l, d, ops
}

// plainPrefix: the prefix of generation g, of its number in base 26.
func plainPrefix(g int) string {
	letters := ""
	for range 5 {
		letters = string("abcdefghijklmnopqrstuvwxyz"[g%26]) + letters
		g /= 26
	}
	return "w" + letters
}

// plainStrays is the plan of Strays as the chapter's words tell it.
func plainStrays(s api.Store) (ops []api.DiskOp) {
	for i := len(s.Disk.Files) - 1; i >= 0; i-- {
		name, log := s.Disk.Files[i].Name, plainPrefix(s.Gen)+"."
		switch {
		case !disk.Name(name):
		case len(name) > 2 && name[:2] == "m.":
		case len(name) > 7 && name[:7] == log:
		case slices.Contains(s.Tables, name):
		default:
			ops = append(ops, dropOp(name))
		}
	}
	return ops
}

// plainBatch: the batch of a log's record, if it is one.
func plainBatch(record string) ([]api.Change, bool) {
	l, ok := plainUnpack(record)
	if !ok || len(l)%3 != 0 || len(l) == 0 || len(l) > 192 {
		return nil, false
	}
	var changes []api.Change
	for i := 0; i < len(l); i += 3 {
		k, v := l[i+1], l[i+2]
		switch {
		case len(k) < 1 || len(k) > 64 || len(v) > 4096:
			return nil, false
		case l[i] == "p":
			changes = append(changes, set(k, v))
		case l[i] == "d" && v == "":
			changes = append(changes, gone(k))
		default:
			return nil, false
		}
	}
	return changes, true
}

// plainUnpack: the fields of a short Pack.
func plainUnpack(s string) ([]string, bool) {
	number := func() int {
		n := 0
		for i := range 4 {
			n = n<<8 | int(s[i])
		}
		s = s[4:]
		return n
	}
	if len(s) < 4 {
		return nil, false
	}
	var l []string
	for range min(number(), 4097) {
		if len(s) < 4 {
			return nil, false
		}
		n := number()
		if n > len(s) || n > 1<<16 {
			return nil, false
		}
		l, s = append(l, s[:n]), s[n:]
	}
	return l, s == "" && len(l) <= 4096
}

// plainMem: changes in order make a Mem.
func plainMem(l []api.Change) []api.Change {
	m := map[string]api.Change{}
	for _, c := range l {
		m[c.Key] = c
	}
	var mem []api.Change
	for _, k := range slices.Sorted(maps.Keys(m)) {
		mem = append(mem, m[k])
	}
	return mem
}

// plainOpen is Open as the chapter's words tell it.
func plainOpen(d api.Disk) (s api.Store, done []api.DiskOp, err api.Errno) {
	records, d, done := plainRecords(d, "m")
	for _, r := range records {
		f, ok := plainUnpack(r)
		if !ok || len(f) != 2 || f[0] != "t" && f[0] != "c" || len(f[1]) != 8 || !disk.Name(f[1]) || f[1][0] != 't' {
			return api.Store{}, nil, api.ErrStore
		}
		if f[0] == "c" {
			s.Tables = []string{f[1]}
		} else {
			s.Tables = append(s.Tables, f[1])
			s.Gen++
		}
		s.Marks++
	}
	for _, name := range s.Tables {
		bytes, missing := disk.Bytes(d, name)
		if _, broken := table.All(bytes); missing != api.OK || broken != api.OK {
			return api.Store{}, nil, api.ErrStore
		}
	}
	s.Disk = d
	strays := plainStrays(s)
	d, _, _ = disk.Do(d, strays)
	records, d, mends := plainRecords(d, plainPrefix(s.Gen))
	var changes []api.Change
	for _, r := range records {
		l, ok := plainBatch(r)
		if !ok || len(s.Tables) > 16 {
			return api.Store{}, nil, api.ErrStore
		}
		changes = append(changes, l...)
	}
	if len(s.Tables) > 16 {
		return api.Store{}, nil, api.ErrStore
	}
	s.Disk, s.Mem = d, plainMem(changes)
	return s, slices.Concat(done, strays, mends), api.OK
}

// plainHeld: what the tables hold, and Mem if it is asked for.
func plainHeld(s api.Store, mem []api.Change) model {
	held := model{}
	for _, name := range s.Tables {
		bytes, _ := disk.Bytes(s.Disk, name)
		pairs, _ := table.All(bytes)
		for _, p := range pairs {
			if strings.HasPrefix(p.Value, "p") {
				held[p.Key] = p.Value[1:]
			} else {
				delete(held, p.Key)
			}
		}
	}
	return held.after(mem)
}

// plainKeep is what Flush and Merge do alike: the operations ahead of the strays.
func plainKeep(s api.Store, letter string, pairs []api.Pair) (api.Store, []api.DiskOp, api.Errno) {
	text, err := table.Build(pairs)
	if err != api.OK {
		return s, nil, err
	}
	name := wal.Name("t", s.Marks)
	ops := plan(appendOp(name, text), syncOp(name))
	marks, err := wal.Append(s.Disk, "m", pack(letter, name))
	if err != api.OK {
		return s, nil, err
	}
	ops = append(ops, marks...)
	if s.Disk, _, err = disk.Do(s.Disk, ops); err != api.OK {
		return s, nil, err
	}
	sync, _ := wal.Sync(s.Disk, "m")
	s.Disk, _, err = disk.Do(s.Disk, sync)
	ops = append(ops, sync...)
	s.Marks++
	if letter == "c" {
		s.Tables = []string{name}
	} else {
		s.Tables, s.Mem = append(slices.Clone(s.Tables), name), nil
		s.Gen++
	}
	return s, ops, err
}

// plainTidy: the strays are dropped behind what was done.
func plainTidy(s api.Store, done []api.DiskOp, err api.Errno) (api.Store, []api.DiskOp, api.Errno) {
	if err != api.OK {
		return api.Store{}, nil, err
	}
	strays := plainStrays(s)
	s.Disk, _, _ = disk.Do(s.Disk, strays)
	return s, append(done, strays...), api.OK
}

func plainFlush(s api.Store) (api.Store, []api.DiskOp, api.Errno) {
	if len(s.Mem) == 0 {
		return s, nil, api.OK
	}
	if len(s.Tables) >= 16 {
		return api.Store{}, nil, api.ErrFull
	}
	var pairs []api.Pair
	for _, c := range s.Mem {
		if c.Gone {
			pairs = append(pairs, pair(c.Key, "d"))
		} else {
			pairs = append(pairs, pair(c.Key, "p"+c.Value))
		}
	}
	return plainTidy(plainKeep(s, "t", pairs))
}

func plainMerge(s api.Store) (api.Store, []api.DiskOp, api.Errno) {
	if len(s.Tables) < 2 {
		return s, nil, api.OK
	}
	pairs := plainHeld(s, nil).pairs()
	for i := range pairs {
		pairs[i].Value = "p" + pairs[i].Value
	}
	return plainTidy(plainKeep(s, "c", pairs))
}

// plainWrite is Write of a batch that may be.
func plainWrite(s api.Store, l []api.Change) (api.Store, []api.DiskOp, api.Errno) {
	ops, err := wal.Append(s.Disk, plainPrefix(s.Gen), record(l...))
	if err != api.OK {
		return api.Store{}, nil, err
	}
	s.Mem = plainMem(slices.Concat(s.Mem, l))
	if len(s.Mem) > 1024 {
		return api.Store{}, nil, api.ErrFull
	}
	s.Disk, _, err = disk.Do(s.Disk, ops)
	if err != api.OK {
		return api.Store{}, nil, err
	}
	return s, ops, api.OK
}

func plainSafe(s api.Store) (api.Store, []api.DiskOp, api.Errno) {
	ops, _ := wal.Sync(s.Disk, plainPrefix(s.Gen))
	s.Disk, _, _ = disk.Do(s.Disk, ops)
	return s, ops, api.OK
}

// someBytes: of a file that a store may have, or that none has.
func someBytes(r *rand.Rand) string {
	var s string
	for range 1 + r.Intn(2) {
		switch r.Intn(12) {
		case 0:
			s += "x"
		case 1:
			s += frames(pack("t", "t.00000"))
		case 2:
			s += frames(record(set("a", "b"), api.Change{Key: "b"}) + "x")
		case 3, 4, 5:
			s += marked([]string{"tt.000000", "tt.000001", "ct.000002"}[r.Intn(3)])
		default:
			s += logged(someChanges(r))
		}
	}
	return s
}

// someTable: a table, or nearly one, whose values may begin with any letter.
func someTable(r *rand.Rand) string {
	var pairs []api.Pair
	for k := range 8 {
		if r.Intn(2) == 0 {
			pairs = append(pairs, pair(string(rune('a'+k)), []string{"", "d", "p", "px", "x", "pp", "dp", "p" + sized(300)}[r.Intn(8)]))
		}
	}
	s := tabled(pairs...)
	if r.Intn(12) == 0 {
		s = s[:r.Intn(len(s))]
	}
	return s
}

// damaged: the disk with a few things of it made otherwise.
func damaged(r *rand.Rand, d api.Disk) api.Disk {
	d = disk.Copy(d)
	odd := []string{"m.000000", "m.000001", "m.", "waaaaa.000000", "waaaab.000000", "waaaac.000000", "waaaab.000001", "t.000000", "t.000001", "t.000002", "tabcdefg", "stray", "X", "", "m", "waaaab.", "t"}
	for range r.Intn(4) {
		i := r.Intn(len(d.Files) + 1)
		if i == len(d.Files) || r.Intn(3) == 0 {
			f := loose(odd[r.Intn(len(odd))], someBytes(r))
			if f.Name != "" && f.Name[0] == 't' {
				f.Loose = someTable(r)
			}
			d.Files = slices.Insert(d.Files, i, f)
			continue
		}
		f := &d.Files[i]
		switch r.Intn(6) {
		case 0:
			d.Files = slices.Delete(d.Files, i, i+1)
		case 1:
			f.Loose += "torn"
		case 2:
			f.Kept = f.Kept[:r.Intn(len(f.Kept)+1)]
		case 3:
			f.Name = odd[r.Intn(len(odd))]
		case 4:
			f.Loose += someBytes(r)
		case 5:
			j := r.Intn(len(d.Files))
			d.Files[i], d.Files[j] = d.Files[j], d.Files[i]
		}
	}
	return d
}

// P7.1: all calls against the plain telling, on disks and stores that calls made and on such that none made; P7.4 of the disks.
func TestAsTold(t *testing.T) {
	r := rand.New(rand.NewSource(4))
	good, bad := 0, map[api.Errno]int{}
	check := func(name string, s api.Store, c, plain call) {
		t.Helper()
		was := lsm.Copy(s)
		got, ops, err := c(s)
		want, done, fault := plain(s)
		if err != fault || !same(got, want) || !slices.Equal(ops, done) {
			t.Fatalf("%s of %s:\n got %v, %s, %s\nwant %v, %s, %s", name, told(s), err, told(got), toldOps(ops), fault, told(want), toldOps(done))
		}
		if !same(s, was) {
			t.Fatalf("%s changed the store that was handed in", name)
		}
		if bad[err]++; err == api.OK {
			good++
		}
	}
	for range 1500 {
		x := newRun(r)
		for range 1 + r.Intn(20) {
			x.step(t)
		}
		d := x.s.Disk
		if r.Intn(8) != 0 {
			d = damaged(r, d)
		}
		check("Open", api.Store{Disk: d}, open, func(s api.Store) (api.Store, []api.DiskOp, api.Errno) { return plainOpen(s.Disk) })
		if s, _, err := lsm.Open(d); err == api.OK && distinct(d) {
			again(t, s)
		}
		s := x.s
		s.Disk = d
		if r.Intn(4) == 0 {
			s.Mem, s.Tables = append(slices.Clone(s.Mem), someChanges(r)...), append(slices.Clone(s.Tables), "X", "tabcdefg")
			s.Gen, s.Marks = s.Gen+r.Intn(3), s.Marks-r.Intn(3)
		}
		l := someChanges(r)
		check("Write", s, write(l...), func(s api.Store) (api.Store, []api.DiskOp, api.Errno) { return plainWrite(s, l) })
		check("Safe", s, lsm.Safe, plainSafe)
		check("Flush", s, lsm.Flush, plainFlush)
		check("Merge", s, lsm.Merge, plainMerge)
		holds(t, "any store", s, plainHeld(s, s.Mem).pairs()...)
	}
	if good < 1000 || bad[api.ErrStore] < 100 || bad[api.ErrArg] < 10 {
		t.Errorf("%d were OK, others %v", good, bad)
	}
}

// distinct: are the names of the disk's files all different?
func distinct(d api.Disk) bool {
	names := map[string]bool{}
	for _, f := range d.Files {
		names[f.Name] = true
	}
	return len(names) == len(d.Files)
}

// P7.3: Range of two parts is Range of both, and all that it tells Get tells too.
func TestRanges(t *testing.T) {
	r := rand.New(rand.NewSource(5))
	for range 200 {
		x := newRun(r)
		for range 1 + r.Intn(30) {
			x.step(t)
		}
		held := x.states[len(x.states)-1]
		for range 20 {
			from, to := string(rune('a'+r.Intn(10))), string(rune('a'+r.Intn(10)))
			var want []api.Pair
			for _, p := range held.pairs() {
				if from <= p.Key && p.Key < to {
					want = append(want, p)
				}
			}
			if got := lsm.Range(x.s, from, to); !slices.Equal(got, want) {
				t.Fatalf("Range from %q to %q: %.200q, want %.200q", from, to, got, want)
			}
			v, ok := lsm.Get(x.s, from)
			if want, there := held[from]; v != want || ok != there {
				t.Fatalf("Get(%q): %.40q, %v, want %.40q, %v", from, v, ok, want, there)
			}
		}
	}
}

// A room holds texts in bytes that can be changed behind the back of whoever kept one of them.
type room struct{ parts [][]byte }

func (m *room) text(s string) string {
	if s == "" {
		return ""
	}
	b := []byte(s)
	m.parts = append(m.parts, b)
	return unsafe.String(&b[0], len(b))
}

func (m *room) change() {
	for _, b := range m.parts {
		clear(b)
	}
}

func (m *room) batch(l []api.Change) []api.Change {
	out := make([]api.Change, 0, len(l)+3)
	for _, c := range l {
		out = append(out, api.Change{Key: m.text(c.Key), Value: m.text(c.Value), Gone: c.Gone})
	}
	return out
}

// store: the store with all its texts in m, and with spare room behind its lists.
func (m *room) store(s api.Store) api.Store {
	files, tables := make([]api.File, 0, len(s.Disk.Files)+3), make([]string, 0, len(s.Tables)+3)
	for _, f := range s.Disk.Files {
		files = append(files, api.File{Name: m.text(f.Name), Kept: m.text(f.Kept), Loose: m.text(f.Loose)})
	}
	for _, name := range s.Tables {
		tables = append(tables, m.text(name))
	}
	return api.Store{Disk: api.Disk{Files: files}, Mem: m.batch(s.Mem), Tables: tables, Gen: s.Gen, Marks: s.Marks}
}

// spare: is there nothing in the spare room of the lists?
func spare(s api.Store) bool {
	return !slices.ContainsFunc(s.Disk.Files[len(s.Disk.Files):cap(s.Disk.Files)], func(f api.File) bool { return f != api.File{} }) &&
		!slices.ContainsFunc(s.Mem[len(s.Mem):cap(s.Mem)], func(c api.Change) bool { return c != api.Change{} }) &&
		!slices.ContainsFunc(s.Tables[len(s.Tables):cap(s.Tables)], func(name string) bool { return name != "" })
}

// forget: all that was handed in becomes another thing.
func (m *room) forget(s api.Store) {
	m.change()
	clear(s.Disk.Files)
	clear(s.Mem)
	clear(s.Tables)
}

// P7.1: what is handed in is neither changed, its spare room neither, nor kept; an answer is new memory.
func TestHandedIn(t *testing.T) {
	base := done(t, api.Store{}, write(set("a", "1"), set("b", "1")), lsm.Flush, write(set("b", "2"), gone("a")), lsm.Flush, write(set("c", "3"), set("e", "5")))
	base.Disk.Files = append(base.Disk.Files, loose("stray", "x"), kept("X", "y"))
	l := batch(set("d", "4"), gone("b"), set("c", "33"))
	for name, c := range map[string]func(s api.Store, m *room) (api.Store, []api.DiskOp, api.Errno){
		"Open":  func(s api.Store, m *room) (api.Store, []api.DiskOp, api.Errno) { return lsm.Open(s.Disk) },
		"Safe":  func(s api.Store, m *room) (api.Store, []api.DiskOp, api.Errno) { return lsm.Safe(s) },
		"Flush": func(s api.Store, m *room) (api.Store, []api.DiskOp, api.Errno) { return lsm.Flush(s) },
		"Merge": func(s api.Store, m *room) (api.Store, []api.DiskOp, api.Errno) { return lsm.Merge(s) },
		"Copy":  func(s api.Store, m *room) (api.Store, []api.DiskOp, api.Errno) { return lsm.Copy(s), nil, api.OK },
		"Flush of nothing": func(s api.Store, m *room) (api.Store, []api.DiskOp, api.Errno) {
			s.Mem = s.Mem[:0:0]
			return lsm.Flush(s)
		},
		"Merge of nothing": func(s api.Store, m *room) (api.Store, []api.DiskOp, api.Errno) {
			s.Tables = s.Tables[:1]
			return lsm.Merge(s)
		},
		"Write": func(s api.Store, m *room) (api.Store, []api.DiskOp, api.Errno) {
			if m == nil {
				return lsm.Write(s, l)
			}
			changes := m.batch(l)
			next, ops, err := lsm.Write(s, changes)
			if !slices.Equal(changes, l) || changes[:4][3] != (api.Change{}) {
				t.Errorf("Write changed the batch: %v", changes[:cap(changes)])
			}
			m.change()
			clear(changes)
			return next, ops, err
		},
	} {
		want, ops, err := c(base, nil)
		var texts, changes room
		s := texts.store(base)
		next, made, fault := c(s, &changes)
		if !same(s, base) || !spare(s) {
			t.Errorf("%s changed the store that was handed in: %s", name, told(s))
		}
		texts.forget(s)
		if !same(next, want) || !slices.Equal(made, ops) || err != api.OK || fault != api.OK {
			t.Errorf("%s kept what was handed in: %v, %v, %s, %s; want %s, %s", name, err, fault, told(next), toldOps(made), told(want), toldOps(ops))
		}
	}
	var m room
	s := m.store(base)
	pairs, want := all(s), all(base)
	v, _ := lsm.Get(s, m.text("e"))
	w, _ := lsm.Get(s, m.text("b"))
	if !same(s, base) || !spare(s) {
		t.Errorf("Range or Get changed the store that was handed in: %s", told(s))
	}
	m.forget(s)
	if !slices.Equal(pairs, want) || v != "5" || w != "2" {
		t.Errorf("Range or Get kept what was handed in: %q, %q, %q", pairs, v, w)
	}
}
