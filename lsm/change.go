package lsm

import (
	"slices"
	"strings"

	"levee/api"
	"levee/code"
	"levee/disk"
	"levee/table"
)

// A batch has at most maxBatch changes, a key at most maxKey bytes, a value at most maxValue.
const (
	maxBatch = 64
	maxKey   = 64
	maxValue = 4096
)

// A change of a log's record has changeFields fields; put and gone begin it there, and its value in a table.
const (
	changeFields = 3
	put          = "p"
	gone         = "d"
)

// batch: may the changes be a batch?
func batch(l []api.Change) api.Errno {
	if len(l) > maxBatch {
		return api.ErrLong
	}
	if len(l) == 0 {
		return api.ErrArg
	}
	for _, c := range l {
		if c.Key == "" || c.Gone && c.Value != "" {
			return api.ErrArg
		}
		if len(c.Key) > maxKey || len(c.Value) > maxValue {
			return api.ErrLong
		}
	}
	return api.OK
}

// recordOf: the log's record of a batch.
func recordOf(l []api.Change) (string, api.Errno) {
	fields := make([]string, 0, changeFields*len(l))
	for _, c := range l {
		kind := put
		if c.Gone {
			kind = gone
		}
		fields = append(fields, kind, c.Key, c.Value)
	}
	return code.Pack(fields)
}

// changesOf: the batch of a log's record.
func changesOf(record string) ([]api.Change, bool) {
	fields, err := code.Unpack(record)
	if err != api.OK || len(fields)%changeFields != 0 {
		return nil, false
	}
	var l []api.Change
	for three := range slices.Chunk(fields, changeFields) {
		if three[0] != put && three[0] != gone {
			return nil, false
		}
		l = append(l, api.Change{Key: three[1], Value: three[2], Gone: three[0] == gone})
	}
	if batch(l) != api.OK {
		return nil, false
	}
	return l, true
}

// pairsOf: the changes as a table has them.
func pairsOf(l []api.Change) []api.Pair {
	pairs := make([]api.Pair, len(l))
	for i, c := range l {
		pairs[i] = api.Pair{Key: c.Key, Value: put + c.Value}
		if c.Gone {
			pairs[i].Value = gone
		}
	}
	return pairs
}

// fromTable: the change that a table's pair is.
func fromTable(p api.Pair) api.Change {
	value, ok := strings.CutPrefix(p.Value, put)
	if !ok {
		return api.Change{Key: p.Key, Gone: true}
	}
	return api.Change{Key: p.Key, Value: value}
}

// inTable: the pairs of a table's file; false, where it isn't there or is no table.
func inTable(d api.Disk, name string) ([]api.Pair, bool) {
	bytes, err := disk.Bytes(d, name)
	if err != api.OK {
		return nil, false
	}
	pairs, err := table.All(bytes)
	return pairs, err == api.OK
}

// tablesOf: the changes of all tables, from the oldest on; a broken table has none.
func tablesOf(s api.Store) []api.Change {
	var l []api.Change
	for _, name := range s.Tables {
		pairs, _ := inTable(s.Disk, name)
		for _, p := range pairs {
			l = append(l, fromTable(p))
		}
	}
	return l
}

// settled: of each key the last change, rising by keys; it takes the place of l.
func settled(l []api.Change) []api.Change {
	slices.SortStableFunc(l, func(a, b api.Change) int { return strings.Compare(a.Key, b.Key) })
	last := l[:0]
	for i, c := range l {
		if i+1 == len(l) || l[i+1].Key != c.Key {
			last = append(last, c)
		}
	}
	return last
}

// copied: the same changes, as new memory.
func copied(l []api.Change) []api.Change {
	l = slices.Clone(l)
	for i, c := range l {
		l[i] = api.Change{Key: strings.Clone(c.Key), Value: strings.Clone(c.Value), Gone: c.Gone}
	}
	return l
}
