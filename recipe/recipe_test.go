package recipe_test

import (
	"fmt"
	"testing"

	"manciple/api"
	"manciple/recipe"
)

// table is the document's: item, count, item, count ..
var table = map[uint32][2][]uint64{
	1: {{1, 2}, {2, 1}},
	2: {{2, 1, 3, 1}, {4, 1}},
	3: {{4, 1}, {2, 1, 5, 3}},
	4: {{5, 10}, {6, 1, 5, 1}},
	5: {{6, 1, 4, 2, 1, 5}, {7, 1}},
	6: {{7, 1}, {6, 1, 1, 4}},
}

// same says whether two recipes are the same; lists that are nil and lists that are empty are.
func same(a, b api.Recipe) bool { return fmt.Sprint(a) == fmt.Sprint(b) }

func stacks(l []uint64, times uint64) []api.Stack {
	var s []api.Stack
	for i := 0; i < len(l); i += 2 {
		s = append(s, api.Stack{Item: uint32(l[i]), Count: l[i+1] * times})
	}
	return s
}

func want(id uint32, times uint64) api.Recipe {
	return api.Recipe{In: stacks(table[id][0], times), Out: stacks(table[id][1], times)}
}

func TestOf(t *testing.T) {
	for id := range uint32(10) {
		r, ok := recipe.Of(id)
		if is := id >= 1 && id <= 6; ok != is || !same(r, want(id, 1)) {
			t.Errorf("Of(%d) is %v, %v", id, r, ok)
		}
	}
	if r, ok := recipe.Of(1<<32 - 1); ok || len(r.In)+len(r.Out) != 0 {
		t.Error("Of the greatest number")
	}
}

func TestNeeds(t *testing.T) {
	for id := uint32(1); id <= 6; id++ {
		for _, n := range []uint64{1, 2, 999, 1000} {
			if r, err := recipe.Needs(id, n); err != api.OK || !same(r, want(id, n)) {
				t.Errorf("Needs(%d, %d) is %v, %v", id, n, r, err)
			}
		}
		for _, n := range []uint64{0, 1001, 1 << 63, 1<<64 - 1} {
			if r, err := recipe.Needs(id, n); err != api.ErrArg || len(r.In)+len(r.Out) != 0 {
				t.Errorf("Needs(%d, %d) is %v, %v", id, n, r, err)
			}
		}
	}
	for _, id := range []uint32{0, 7, 1<<32 - 1} {
		for _, n := range []uint64{0, 1, 1001} {
			if r, err := recipe.Needs(id, n); err != api.ErrRecipeNone || len(r.In)+len(r.Out) != 0 {
				t.Errorf("Needs(%d, %d) is %v, %v", id, n, r, err)
			}
		}
	}
}

func TestChange(t *testing.T) {
	for _, c := range []struct {
		id         uint32
		n          uint64
		item       uint32
		less, more uint64
	}{
		{4, 2, 5, 20, 2}, {4, 2, 6, 0, 2}, {4, 2, 7, 0, 0}, {5, 3, 4, 6, 0}, {5, 1000, 1, 5000, 0}, {3, 7, 5, 0, 21},
		{1, 1, 0, 0, 0}, {0, 1, 1, 0, 0}, {7, 1, 1, 0, 0}, {4, 0, 5, 0, 0}, {4, 1001, 5, 0, 0},
	} {
		if less, more := recipe.Change(c.id, c.n, c.item); less != c.less || more != c.more {
			t.Errorf("Change(%d, %d, %d) is %d, %d", c.id, c.n, c.item, less, more)
		}
	}
}

func TestListsAreNew(t *testing.T) {
	for id := uint32(1); id <= 6; id++ {
		a, _ := recipe.Of(id)
		b, _ := recipe.Needs(id, 1)
		for _, l := range [][]api.Stack{a.In, a.Out, b.In, b.Out} {
			_ = append(l[:0], make([]api.Stack, cap(l))...)
		}
		if r, _ := recipe.Of(id); !same(r, want(id, 1)) {
			t.Errorf("recipe %d was changed from outside", id)
		}
	}
}
