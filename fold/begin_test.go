package fold_test

import (
	"math"
	"testing"

	"levee/api"
	"levee/fold"
)

// wrongKinds are none of the eight, though some are one where a number is cut off.
func wrongKinds() []int {
	return []int{0, 9, 10, 11, -1, -2, -8, 255, 256, 257, 264, 1<<16 + 3, 1 << 32, 1<<32 + 1, 1<<32 + 8, -1<<32 + 5, math.MaxInt, math.MinInt, math.MinInt + 1}
}

// beginning: the state of a key that nothing happened to.
func beginning(kind int, start int64) api.State {
	switch kind {
	case api.Counter, api.Bound:
		return api.State{Kind: kind, N: start}
	case api.Flag:
		return api.State{Kind: kind, Default: start != 0}
	}
	return api.State{Kind: kind}
}

// P11.1: the chapter's examples.
func TestExamples(t *testing.T) {
	if s, err := fold.Begin(9, 0); !sameState(s, api.State{}) || err != api.ErrKind {
		t.Errorf("Begin(9, 0): %s, %v", shown(s), err)
	}
	s := begun(t, api.Flag, 1)
	if v, err := fold.Value(s); !same(v, api.Value{On: true}) || err != api.OK {
		t.Errorf("Value of a Flag from 1: %v, %v", v, err)
	}
	s, err := fold.Apply(s, made(0, 1, 1, api.Vector{}, off()), key)
	if err != api.OK {
		t.Fatal(err)
	}
	if v, err := fold.Value(s); !same(v, api.Value{}) || err != api.OK {
		t.Errorf("behind an Off: %v, %v", v, err)
	}
}

// P11.1: a Counter and a Bound begin with the start, a Flag tells whether that is another one than 0, the others have nothing.
func TestBegin(t *testing.T) {
	for _, kind := range kinds {
		for _, start := range starts {
			got, err := fold.Begin(kind, start)
			if want := beginning(kind, start); !sameState(got, want) || err != api.OK {
				t.Errorf("Begin(%d, %d): %s, %v; want %s", kind, start, shown(got), err, shown(want))
			}
			v, err := fold.Value(got)
			want := api.Value{On: kind == api.Flag && start != 0}
			if kind == api.Counter || kind == api.Bound {
				want.N = start
			}
			if !same(v, want) || err != api.OK {
				t.Errorf("Value of Begin(%d, %d): %v, %v; want %v", kind, start, v, err, want)
			}
		}
	}
}

// P11.1: kinds that are none.
func TestBeginOfNoKind(t *testing.T) {
	for _, kind := range wrongKinds() {
		for _, start := range starts {
			if s, err := fold.Begin(kind, start); !sameState(s, api.State{}) || err != api.ErrKind {
				t.Errorf("Begin(%d, %d): %s, %v", kind, start, shown(s), err)
			}
		}
	}
}
