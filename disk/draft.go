package disk

import (
	"slices"
	"strings"

	"levee/api"
)

// A draft is a file while operations change it. Its bytes grow in place:
// as strings they would be copied whole by each of many short Appends.
type draft struct {
	name  string
	bytes []byte
	safe  int // how many of the bytes, from the first on
}

// draftsOf: the files of d as drafts, which share no memory with them but names.
func draftsOf(d api.Disk) []draft {
	drafts := make([]draft, len(d.Files))
	for i, f := range d.Files {
		bytes := make([]byte, 0, len(f.Kept)+len(f.Loose))
		bytes = append(append(bytes, f.Kept...), f.Loose...)
		drafts[i] = draft{f.Name, bytes, len(f.Kept)}
	}
	return drafts
}

// written: the disk of the drafts, as new memory, names too.
func written(drafts []draft) api.Disk {
	files := make([]api.File, len(drafts))
	for i, f := range drafts {
		files[i] = api.File{Name: strings.Clone(f.name), Kept: string(f.bytes[:f.safe]), Loose: string(f.bytes[f.safe:])}
	}
	return api.Disk{Files: files}
}

// do: the drafts behind one operation; one that is refused changes nothing.
func do(drafts []draft, op api.DiskOp) ([]draft, api.Errno) {
	if op.Kind < api.Append || op.Kind > api.Drop || !Name(op.Name) {
		return nil, api.ErrArg
	}
	place := slices.IndexFunc(drafts, func(f draft) bool { return f.name == op.Name })
	if op.Kind == api.Append {
		return grow(drafts, place, op)
	}
	if place < 0 {
		return nil, api.ErrDisk
	}
	if op.Kind == api.Drop {
		return slices.Delete(drafts, place, place+1), api.OK
	}
	f := &drafts[place]
	if op.Kind == api.Cut {
		if op.At < 0 || op.At > len(f.bytes) {
			return nil, api.ErrArg
		}
		f.bytes = f.bytes[:op.At]
	}
	f.safe = len(f.bytes) // behind Sync and Cut alike
	return drafts, api.OK
}

// grow: the drafts behind Append to the one at place; where that is below 0, it is made.
func grow(drafts []draft, place int, op api.DiskOp) ([]draft, api.Errno) {
	size := len(op.Bytes)
	if place >= 0 {
		size += len(drafts[place].bytes)
	} else if len(drafts) >= api.MaxFiles {
		return nil, api.ErrFull
	}
	if size > api.MaxBytes {
		return nil, api.ErrLong
	}
	if place < 0 {
		place = newPlace(drafts, op.Name)
		drafts = slices.Insert(drafts, place, draft{name: op.Name})
	}
	drafts[place].bytes = append(drafts[place].bytes, op.Bytes...)
	return drafts, api.OK
}

// newPlace: where a new file of that name stands, ahead of the first greater one. (The files needn't be rising.)
func newPlace(drafts []draft, name string) int {
	for i, f := range drafts {
		if f.name > name {
			return i
		}
	}
	return len(drafts)
}
