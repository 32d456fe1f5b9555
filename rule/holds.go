package rule

import (
	"slices"

	"levee/api"
	"levee/cut"
	"levee/value"
)

// A sight is the keys of a catalogue at a closed cut. A key's value is told but once: each telling goes over all logs.
type sight struct {
	rules []api.Rule
	logs  api.Logs
	at    api.Vector
	told  map[string]api.Value
}

// Holds: does every rule hold at a closed cut?
func Holds(rules []api.Rule, l api.Logs, v api.Vector) (bool, api.Errno) {
	if err := Check(rules); err != api.OK {
		return false, err
	}
	if err := cut.Check(l); err != api.OK {
		return false, err
	}
	if !cut.Closed(l, v) {
		return false, api.ErrOpen
	}
	s := sight{rules: rules, logs: l, at: v, told: map[string]api.Value{}}
	for _, r := range rules {
		if !s.holds(r) {
			return false, api.OK
		}
	}
	return true, api.OK
}

// holds: does the rule hold?
func (s sight) holds(r api.Rule) bool {
	switch r.Kind {
	case api.Bound:
		return s.value(r.Key).N >= r.Min
	case api.Ids:
		return s.once(r.Key)
	case api.Ref:
		return among(s.value(r.Key).Elems, s.value(r.Other).Elems)
	case api.Either:
		return s.value(r.Key).On || s.value(r.Other).On
	}
	return true
}

// value: what a key that has a rule is.
func (s sight) value(key string) api.Value {
	w, there := s.told[key]
	if !there {
		r := ruleOf(s.rules, key)
		w, _ = value.Value(r.Kind, r.Start, s.logs, s.at, key) // no error: the logs may be, and the cut is closed
		s.told[key] = w
	}
	return w
}

// once: was no element of the key added by two operations?
func (s sight) once(key string) bool {
	added := map[string]struct{}{}
	for i, log := range s.logs {
		for _, t := range log[:s.at[i]] {
			for _, o := range t.Ops {
				if o.Kind != api.Add || o.Key != key {
					continue
				}
				if _, again := added[o.Elem]; again {
					return false
				}
				added[o.Elem] = struct{}{}
			}
		}
	}
	return true
}

// among: is each of some elements one of all, which rise?
func among(some, all []string) bool {
	return !slices.ContainsFunc(some, func(e string) bool {
		_, found := slices.BinarySearch(all, e)
		return !found
	})
}
