package base

import (
	"slices"

	"levee/api"
	"levee/cut"
	"levee/fold"
	"levee/vec"
)

// A past is what makes the keys' states at one cut: the states that the base holds, and what comes behind them.
type past struct {
	held map[string]api.State
	txns []api.Txn // the Tail's within the cut, in order
}

// pastOf: the past of a cut, if that is closed over the base.
func pastOf(b api.Base, v api.Vector) (past, api.Errno) {
	if !vec.Leq(b.At, v) {
		return past{}, api.ErrOld
	}
	if !closed(b, v) {
		return past{}, api.ErrOpen
	}
	return past{heldOf(b), cut.Order(b.Tail, less(v, b.At))}, api.OK
}

// closed: is a cut that isn't below At closed over the base?
func closed(b api.Base, v api.Vector) bool {
	// A size that wrapped round is below At, so no cut is within it, and no log is asked for more than it has.
	if !vec.Leq(v, Size(b)) {
		return false
	}
	within := less(v, b.At)
	for i, log := range b.Tail {
		for _, t := range log[:within[i]] {
			if !vec.Leq(t.Deps, v) {
				return false
			}
		}
	}
	return true
}

// heldOf: the states that the base holds, of each key the first one.
func heldOf(b api.Base) map[string]api.State {
	held := map[string]api.State{}
	for _, h := range b.Held {
		if _, again := held[h.Key]; !again {
			held[h.Key] = h.State
		}
	}
	return held
}

// begun: the state of the rule's key ahead of the transactions.
func (p past) begun(r api.Rule) api.State {
	if s, ok := p.held[r.Key]; ok {
		return s
	}
	s, _ := fold.Begin(r.Kind, r.Start) // a key's rule is of a kind that Begin takes
	return s
}

// state: the state of the rule's key at the cut.
func (p past) state(r api.Rule) (api.State, api.Errno) {
	s := p.begun(r)
	for place, t := range p.txns {
		var err api.Errno
		if place == 0 || tells(t, r.Key) {
			s, err = fold.Apply(s, t, r.Key)
		} else {
			// Behind the first one it would be the same state again, and Apply copies all of a state: a state of nothing is enough to see whether it refuses.
			_, err = fold.Apply(api.State{Kind: s.Kind}, t, r.Key)
		}
		if err != api.OK {
			return api.State{}, err
		}
	}
	return s, api.OK
}

// value: the value of the rule's key at the cut.
func (p past) value(r api.Rule) (api.Value, api.Errno) {
	s, err := p.state(r)
	if err != api.OK {
		return api.Value{}, err
	}
	return fold.Value(s)
}

// tells: has the transaction an operation on the key?
func tells(t api.Txn, key string) bool {
	return slices.ContainsFunc(t.Ops, func(o api.Op) bool { return o.Key == key })
}
