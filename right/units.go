package right

import (
	"slices"

	"levee/api"
	"levee/rule"
	"levee/txn"
)

// allowed: may the member make these operations, which have their Form, one behind the other?
func allowed(rules []api.Rule, grants []api.Grant, l api.Logs, member int, ops []api.Op) api.Errno {
	left := map[string]int64{} // of each bound that was met: a telling of units goes over all logs
	for i, o := range ops {
		switch rules[rule.Find(rules, o.Key)].Kind { // by their Form each key has a rule
		case api.Ids:
			if o.Kind == api.Add && (slices.Contains(ops[:i], o) || added(l[member], o)) {
				return api.ErrTwice
			}
		case api.Bound:
			n, met := left[o.Key]
			if !met {
				n = unitsOf(grants, l, member, o.Key)
			}
			n += gain(o, member, member)
			if n < 0 {
				return api.ErrRights
			}
			left[o.Key] = n
		}
	}
	return api.OK
}

// added: does the log have the very same operation, an Add? What was removed again was added, too.
func added(log []api.Txn, o api.Op) bool {
	return slices.ContainsFunc(log, func(t api.Txn) bool { return slices.Contains(t.Ops, o) })
}

// unitsOf: the member's units of the bound.
func unitsOf(grants []api.Grant, l api.Logs, member int, key string) int64 {
	var n int64
	for _, g := range grants {
		if g.Key == key && g.Member == member {
			n += g.N
		}
	}
	for i, log := range l {
		for _, o := range opsOn(log, key) {
			n += gain(o, i, member)
		}
	}
	return n
}

// gain: how many units an operation of the member by brings to the member to; below 0: takes from it.
func gain(o api.Op, by, to int) int64 {
	switch {
	case by == to && o.Kind == api.Give:
		return -o.N
	case by == to:
		return change(o)
	case o.Kind == api.Give && txn.Member(o.Elem) == to:
		return o.N
	}
	return 0
}

// change: how far up an operation takes the bound itself; a Give, which moves units alone, not at all.
func change(o api.Op) int64 {
	switch o.Kind {
	case api.Inc:
		return o.N
	case api.Dec:
		return -o.N
	}
	return 0
}

// opsOn: the log's operations on the key.
func opsOn(log []api.Txn, key string) []api.Op {
	var ops []api.Op
	for _, t := range log {
		for _, o := range t.Ops {
			if o.Key == key {
				ops = append(ops, o)
			}
		}
	}
	return ops
}
