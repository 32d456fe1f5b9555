package value

import (
	"slices"

	"levee/api"
	"levee/vec"
)

// A deed is an operation on the key, and where it stands: in which transaction, at which place.
type deed struct {
	txn   *api.Txn
	place int
}

// Seers are operations about one thing: all that their transactions' Deps count.
type seers struct{ counted api.Vector }

func (d deed) op() api.Op { return d.txn.Ops[d.place] }

// deedsOn: a closed cut's operations on the key, member by member, each log from its first transaction on.
func deedsOn(l api.Logs, v api.Vector, key string) []deed {
	var all []deed
	for i, log := range l {
		for k := range log[:v[i]] {
			t := &log[k]
			for place, o := range t.Ops {
				if o.Key == key {
					all = append(all, deed{t, place})
				}
			}
		}
	}
	return all
}

// ofKind: the deeds of that kind.
func ofKind(all []deed, kind int) []deed {
	var l []deed
	for _, d := range all {
		if d.op().Kind == kind {
			l = append(l, d)
		}
	}
	return l
}

// unseen: the deeds of a kind that none of the kind seer about the same sees.
func unseen(all []deed, kind, seer int) []deed {
	seen := map[string]seers{}
	for _, d := range ofKind(all, seer) {
		thing := about(d.op())
		seen[thing] = seers{vec.Join(seen[thing].counted, d.txn.Deps)}
	}
	return slices.DeleteFunc(ofKind(all, kind), func(d deed) bool {
		counted := seen[about(d.op())].counted
		return vec.Has(counted, d.txn.Origin, d.txn.Seq) || seenWithin(d, seer)
	})
}

// seenWithin: does a later operation of its own transaction, which no Deps tell of, see it?
func seenWithin(d deed, seer int) bool {
	o := d.op()
	return slices.ContainsFunc(d.txn.Ops[d.place+1:], func(p api.Op) bool {
		return p.Kind == seer && p.Key == o.Key && about(p) == about(o)
	})
}

// about: what the operation is about: its element; of a Write, which is of the whole key, nothing.
func about(o api.Op) string {
	if o.Kind == api.Write {
		return ""
	}
	return o.Elem
}
