package lists

import (
	"slices"
	"testing"
)

func TestOwnIsTheSame(t *testing.T) {
	for _, list := range [][]int{nil, {}, {0}, {3, 1, 2}, make([]int, 1000)} {
		if got := Own(list); !slices.Equal(got, list) || (got == nil) != (list == nil) {
			t.Errorf("%v: %v", list, got)
		}
	}
}

func TestOwnSharesNothing(t *testing.T) {
	list := []string{"a", "b", "c", "d"}
	got := Own(list[:2])
	got[0] = "x"
	_ = append(got, "y")
	if !slices.Equal(list, []string{"a", "b", "c", "d"}) {
		t.Error(list)
	}
	list[1] = "z"
	if got[1] != "b" {
		t.Error(got)
	}
	_ = append(Own(list[:0]), "y")
	if list[0] != "a" {
		t.Error(list)
	}
}
