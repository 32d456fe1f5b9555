package rule

import (
	"slices"

	"levee/api"
	"levee/txn"
)

// Form: may these be the member's operations of one transaction?
func Form(rules []api.Rule, member int, ops []api.Op) api.Errno {
	if err := Check(rules); err != api.OK {
		return err
	}
	// Of a member's first transaction nothing else is left that may not be.
	if err := txn.Check(api.Txn{Origin: member, Seq: 1, Stamp: 1, Ops: ops}); err != api.OK {
		return err
	}
	for _, o := range ops {
		r := ruleOf(rules, o.Key)
		if r.Kind == 0 {
			return api.ErrRule
		}
		if !fits(r.Kind, o.Kind) {
			return api.ErrKind
		}
	}
	for _, o := range ops {
		if !paid(rules, member, ops, o) {
			return api.ErrForm
		}
	}
	return api.OK
}

// fits: does an operation of the kind op fit a key of this kind?
func fits(kind, op int) bool {
	switch kind {
	case api.Counter:
		return op == api.Inc || op == api.Dec
	case api.Bound:
		return op == api.Inc || op == api.Dec || op == api.Give
	case api.Set, api.Firm, api.Ids:
		return op == api.Add || op == api.Remove
	case api.Last, api.Multi:
		return op == api.Write
	case api.Flag:
		return op == api.On || op == api.Off
	}
	return false
}

// paid: is all there that one of the operations owes, and nothing that may not be beside it?
func paid(rules []api.Rule, member int, ops []api.Op, o api.Op) bool {
	if o.Kind == api.Add && ruleOf(rules, o.Key).Kind == api.Ids && !ownID(member, o.Elem) {
		return false
	}
	if against, there := reverse(o); there && slices.Contains(ops, against) {
		return false
	}
	for _, r := range rules {
		if owed, some := debt(r, o); some && !slices.Contains(ops, owed) {
			return false
		}
	}
	return true
}

// ownID: is it an identifier of the member's?
func ownID(member int, elem string) bool {
	n, ok := Whole(elem)
	return ok && n >= 0 && n%api.MaxMembers == int64(member)
}

// reverse: the operation, if there is one, that may not be beside o.
func reverse(o api.Op) (api.Op, bool) {
	switch o.Kind {
	case api.Add:
		return api.Op{Kind: api.Remove, Key: o.Key, Elem: o.Elem}, true
	case api.Off:
		return api.Op{Kind: api.On, Key: o.Key}, true
	}
	return api.Op{}, false // a Remove or an On is met from the Add or the Off beside it
}

// debt: what the rule asks for beside o, if it asks for anything.
func debt(r api.Rule, o api.Op) (api.Op, bool) {
	switch {
	case r.Kind == api.Ref && o.Kind == api.Add && o.Key == r.Key:
		return api.Op{Kind: api.Add, Key: r.Other, Elem: o.Elem}, true
	case r.Kind == api.Ref && o.Kind == api.Remove && o.Key == r.Other:
		return api.Op{Kind: api.Remove, Key: r.Key, Elem: o.Elem}, true
	case r.Kind == api.Either && o.Kind == api.Off && o.Key == r.Key:
		return api.Op{Kind: api.On, Key: r.Other}, true
	case r.Kind == api.Either && o.Kind == api.Off && o.Key == r.Other:
		return api.Op{Kind: api.On, Key: r.Key}, true
	}
	return api.Op{}, false
}
