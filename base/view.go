package base

import (
	"slices"
	"strings"
	"sync"
	"sync/atomic"

	"levee/api"
	"levee/cut"
	"levee/fold"
)

// A View is the values of all keys of the rules at one cut: it folds them at its first Value, once.
type View struct {
	once sync.Once
	made atomic.Int64

	base  api.Base // till it is folded
	rules []api.Rule
	at    api.Vector

	told map[string]reply // from then on: of each key that a rule names
}

// A reply is what Read answers of a key.
type reply struct {
	value api.Value
	err   api.Errno
}

// NewView: a view of the base as it is now.
func NewView(b api.Base, rules []api.Rule, v api.Vector) *View {
	return &View{base: copyOf(b), rules: ruleCopies(firsts(rules)), at: v}
}

// Value: what Read answers of the key.
func (w *View) Value(key string) (api.Value, api.Errno) {
	if w == nil { // it has no rules, and no call may panic
		return api.Value{}, api.ErrRule
	}
	w.once.Do(w.fill)
	r, ok := w.told[key]
	if !ok {
		return api.Value{}, api.ErrRule
	}
	return valueCopy(r.value), r.err
}

// Made: how often it folded.
func (w *View) Made() int64 {
	if w == nil {
		return 0
	}
	return w.made.Load()
}

// fill makes the replies, and lets go of all that they were made of.
func (w *View) fill() {
	p, err := pastOf(w.base, w.at)
	w.told = map[string]reply{}
	for _, r := range w.rules {
		told := reply{err: err}
		if err == api.OK {
			told.value, told.err = p.value(r)
		}
		w.told[r.Key] = told
	}
	w.base, w.rules = api.Base{}, nil
	w.made.Add(1)
}

// copyOf: the same base, as new memory.
func copyOf(b api.Base) api.Base {
	b.Held = slices.Clone(b.Held)
	for i, h := range b.Held {
		b.Held[i] = api.Held{Key: strings.Clone(h.Key), State: fold.Copy(h.State)}
	}
	b.Tail = cut.Copy(b.Tail)
	return b
}

// ruleCopies: the same rules, as new memory.
func ruleCopies(l []api.Rule) []api.Rule {
	out := slices.Clone(l)
	for i, r := range l {
		out[i].Key, out[i].Other = strings.Clone(r.Key), strings.Clone(r.Other)
	}
	return out
}

// valueCopy: the same value, as new memory.
func valueCopy(v api.Value) api.Value {
	v.Elems = slices.Clone(v.Elems)
	for i, e := range v.Elems {
		v.Elems[i] = strings.Clone(e)
	}
	return v
}
