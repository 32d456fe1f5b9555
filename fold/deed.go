package fold

import (
	"cmp"
	"slices"
	"strings"

	"levee/api"
	"levee/value"
	"levee/vec"
)

// A deed is an operation on the key, in its transaction, and its tag.
type deed struct {
	txn api.Txn
	op  api.Op
	tag api.Tag
}

func deedOf(t api.Txn, place int) deed {
	o := t.Ops[place]
	return deed{t, o, api.Tag{Origin: t.Origin, Index: place, Seq: t.Seq, Elem: strings.Clone(o.Elem)}}
}

// done: the state behind the deed. The lists of s are changed: they have to be the caller's own.
func (d deed) done(s api.State) api.State {
	switch s.Kind {
	case api.Counter, api.Bound:
		s.N = d.counted(s.N)
	case api.Set, api.Ids:
		s.Live = d.marked(s.Live, api.Add, api.Remove)
	case api.Firm:
		if d.op.Kind == api.Add {
			s.Ever = value.Into(s.Ever, d.op.Elem)
		}
		s.Live = d.marked(s.Live, api.Remove, api.Add)
	case api.Last:
		if d.op.Kind == api.Write && d.later(s) {
			s.Has, s.Stamp, s.Top = true, d.txn.Stamp, d.tag
		}
	case api.Multi:
		s.Live = d.marked(s.Live, api.Write, api.Write)
	case api.Flag:
		s.Default = s.Default && d.op.Kind != api.Off
		s.Live = d.marked(s.Live, api.On, api.Off)
	}
	return s
}

// counted: the number behind the deed; it may wrap round.
func (d deed) counted(n int64) int64 {
	switch d.op.Kind {
	case api.Inc:
		return n + d.op.N
	case api.Dec:
		return n - d.op.N
	}
	return n
}

// marked: the tags behind the deed, where operations of one kind clear tags and those of another one add theirs. One of both clears first: it doesn't see itself.
func (d deed) marked(live []api.Tag, adds, clears int) []api.Tag {
	if d.op.Kind == clears {
		live = slices.DeleteFunc(live, d.clears)
	}
	if d.op.Kind != adds {
		return live
	}
	place := slices.IndexFunc(live, func(tag api.Tag) bool { return order(tag, d.tag) >= 0 })
	if place < 0 {
		place = len(live)
	}
	return slices.Insert(live, place, d.tag)
}

// clears: does it see the tag, and is that about the same? A Write is about the whole key.
func (d deed) clears(tag api.Tag) bool {
	return d.sees(tag) && (d.op.Kind == api.Write || d.op.Elem == tag.Elem)
}

// sees: is the tag's transaction counted by the Deps of the deed's own one, or does the tag stand ahead of it there?
func (d deed) sees(tag api.Tag) bool {
	if tag.Origin == d.tag.Origin && tag.Seq == d.tag.Seq {
		return tag.Index < d.tag.Index
	}
	return vec.Has(d.txn.Deps, tag.Origin, tag.Seq)
}

// later: does the Write come behind the last one?
func (d deed) later(s api.State) bool {
	return !s.Has || cmp.Or(cmp.Compare(d.txn.Stamp, s.Stamp), order(d.tag, s.Top)) > 0
}

// order compares by Origin, Seq and Index.
func order(a, b api.Tag) int {
	return cmp.Or(cmp.Compare(a.Origin, b.Origin), cmp.Compare(a.Seq, b.Seq), cmp.Compare(a.Index, b.Index))
}
