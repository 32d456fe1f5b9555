package lsm

import (
	"slices"

	"levee/api"
	"levee/code"
	"levee/disk"
	"levee/table"
	"levee/wal"
)

// Mem has at most maxMem changes, a store at most maxTables tables.
const (
	maxMem    = 1024
	maxTables = 16
)

// A draft is a store while a call changes it, and what the call did to its disk.
type draft struct {
	api.Store
	done []api.DiskOp
}

// draftOf: the store as a draft, which shares no memory with it.
func draftOf(s api.Store) draft { return draft{Store: Copy(s)} }

// answer: what a call answers that came to an end with this error.
func (s *draft) answer(err api.Errno) (api.Store, []api.DiskOp, api.Errno) {
	if err != api.OK {
		return api.Store{}, nil, err
	}
	return s.Store, s.done, api.OK
}

// do: the plan is done.
func (s *draft) do(plan []api.DiskOp) api.Errno {
	if len(plan) == 0 {
		return api.OK
	}
	after, _, err := disk.Do(s.Disk, plan)
	if err != api.OK {
		return err
	}
	s.Disk, s.done = after, append(s.done, plan...)
	return api.OK
}

// mend: the log of a prefix is mended; its records.
func (s *draft) mend(prefix string) ([]string, api.Errno) {
	records, plan, err := wal.Open(s.Disk, prefix)
	if err != api.OK {
		return nil, err
	}
	return records, s.do(plan)
}

// sync: the log of a prefix is safe.
func (s *draft) sync(prefix string) api.Errno {
	plan, err := wal.Sync(s.Disk, prefix)
	if err != api.OK {
		return err
	}
	return s.do(plan)
}

// open: all but the disk is made anew by what stands on it.
func (s *draft) open() api.Errno {
	records, err := s.mend(manifest)
	if err != api.OK {
		return err
	}
	if !s.replay(records) || !s.sound() {
		return api.ErrStore
	}
	s.dropStrays()
	batches, err := s.mend(logPrefix(s.Gen))
	if err != api.OK {
		return err
	}
	for _, b := range batches {
		l, ok := changesOf(b)
		if !ok {
			return api.ErrStore
		}
		s.Mem = append(s.Mem, l...)
	}
	s.Mem = settled(s.Mem)
	return api.OK
}

// replay: the manifest's records, in order, make Tables, Gen and Marks; false, where one is none.
func (s *draft) replay(records []string) bool {
	for _, r := range records {
		letter, name, ok := markOf(r)
		if !ok {
			return false
		}
		if letter == mergedLetter {
			s.Tables = nil
		} else {
			s.Gen++
		}
		s.Tables = append(s.Tables, name)
	}
	s.Marks = len(records)
	return true
}

// sound: are the tables as many as may be, and each one there and a table?
func (s *draft) sound() bool {
	if len(s.Tables) > maxTables {
		return false
	}
	for _, name := range s.Tables {
		if _, ok := inTable(s.Disk, name); !ok {
			return false
		}
	}
	return true
}

// write: the batch comes into the log and into Mem.
func (s *draft) write(l []api.Change) api.Errno {
	if err := batch(l); err != api.OK {
		return err
	}
	record, err := recordOf(l)
	if err != api.OK {
		return err
	}
	plan, err := wal.Append(s.Disk, logPrefix(s.Gen), record)
	if err != api.OK {
		return err
	}
	s.Mem = settled(append(s.Mem, copied(l)...))
	if len(s.Mem) > maxMem {
		return api.ErrFull
	}
	return s.do(plan)
}

// flush: Mem becomes the newest table, and its log isn't wanted any more.
func (s *draft) flush() api.Errno {
	if len(s.Mem) == 0 {
		return api.OK
	}
	if len(s.Tables) >= maxTables {
		return api.ErrFull
	}
	name, err := s.keep(s.Mem, flushedLetter)
	if err != api.OK {
		return err
	}
	s.Mem = nil
	s.Tables = append(s.Tables, name)
	s.Gen++
	s.dropStrays()
	return api.OK
}

// merge: what the tables hold becomes the only table.
func (s *draft) merge() api.Errno {
	if len(s.Tables) < 2 {
		return api.OK
	}
	held := slices.DeleteFunc(settled(tablesOf(s.Store)), func(c api.Change) bool { return c.Gone })
	name, err := s.keep(held, mergedLetter)
	if err != api.OK {
		return err
	}
	s.Tables = []string{name}
	s.dropStrays()
	return api.OK
}

// keep: the changes stand in a new table, and the manifest tells of it by the letter; the table's name.
func (s *draft) keep(l []api.Change, letter string) (string, api.Errno) {
	bytes, err := table.Build(pairsOf(l))
	if err != api.OK {
		return "", err
	}
	name := wal.Name(tablePrefix, s.Marks)
	mark, err := code.Pack([]string{letter, name})
	if err != api.OK {
		return "", err
	}
	marking, err := wal.Append(s.Disk, manifest, mark)
	if err != api.OK {
		return "", err
	}
	// The table is safe ahead of its mark: a mark that outlives a crash must find it.
	plan := []api.DiskOp{{Kind: api.Append, Name: name, Bytes: bytes}, {Kind: api.Sync, Name: name}}
	if err = s.do(append(plan, marking...)); err != api.OK {
		return "", err
	}
	s.Marks++
	return name, s.sync(manifest)
}

// dropStrays: the files that the store doesn't use go, the last one first.
func (s *draft) dropStrays() {
	// Not by disk.Do, which would look for each name from the disk's beginning on:
	// files of one name are strays all or none, so it comes to the same.
	var used []api.File
	for _, f := range slices.Backward(s.Disk.Files) {
		if s.stray(f.Name) {
			s.done = append(s.done, api.DiskOp{Kind: api.Drop, Name: f.Name})
		} else {
			used = append(used, f)
		}
	}
	slices.Reverse(used)
	s.Disk.Files = used
}
