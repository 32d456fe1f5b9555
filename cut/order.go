package cut

import (
	"cmp"
	"slices"

	"levee/api"
	"levee/txn"
	"levee/vec"
)

// A stand is a transaction, and where it stands: in whose log, at which place.
type stand struct {
	t             *api.Txn
	member, place int
}

// Order: the transactions of a cut, as far as the logs go, in order.
func Order(l api.Logs, v api.Vector) []api.Txn {
	all := stands(l, v)
	slices.SortFunc(all, inOrder)
	return copies(all)
}

// Missing: of all transactions in order the first ones that v doesn't count, most at most.
func Missing(l api.Logs, v api.Vector, most int) []api.Txn {
	left := slices.DeleteFunc(stands(l, Size(l)), func(s stand) bool { return vec.Has(v, s.t.Origin, s.t.Seq) })
	slices.SortFunc(left, inOrder)
	return copies(left[:min(len(left), max(most, 0))])
}

// stands: the transactions of a cut, log by log.
func stands(l api.Logs, v api.Vector) []stand {
	var all []stand
	for i, log := range l {
		for k := range log[:min(v[i], uint64(len(log)))] {
			all = append(all, stand{&log[k], i, k})
		}
	}
	return all
}

// inOrder compares by Stamp, Origin and Seq. Logs that may not be have transactions alike in all three: these stand by member and place.
func inOrder(a, b stand) int {
	return cmp.Or(
		cmp.Compare(a.t.Stamp, b.t.Stamp),
		cmp.Compare(a.t.Origin, b.t.Origin),
		cmp.Compare(a.t.Seq, b.t.Seq),
		cmp.Compare(a.member, b.member),
		cmp.Compare(a.place, b.place),
	)
}

// copies: the transactions as new memory.
func copies(l []stand) []api.Txn {
	var out []api.Txn
	for _, s := range l {
		out = append(out, txn.Copy(*s.t))
	}
	return out
}
