package store

import (
	"slices"
	"strings"

	"abacus/api"
	"abacus/value"
)

// refusesArray: the error of an array's number.
func (s *Store) refusesArray(a int) api.Errno {
	switch {
	case s == nil:
		return api.ErrState
	case a < 0 || a >= api.MaxArrays:
		return api.ErrArray
	}
	return api.OK
}

// put: the element of array a at key becomes v. The key is copied though the element may be there already, since a map takes the new key's memory then too.
func (s *Store) put(a int, key string, v api.Value) {
	if s.arrays[a] == nil {
		s.arrays[a] = map[string]api.Value{}
	}
	s.arrays[a][strings.Clone(key)] = value.Plain(v)
}

// keysOf: copies of an array's keys, in the order of texts.
func keysOf(array map[string]api.Value) []string {
	list := make([]string, 0, len(array))
	for key := range array {
		list = append(list, strings.Clone(key))
	}
	slices.Sort(list)
	return list
}

// allArrays: the arrays up to the last one that has an element.
func (s *Store) allArrays() [][]api.Item {
	count := len(s.arrays)
	for count > 0 && len(s.arrays[count-1]) == 0 {
		count--
	}
	list := make([][]api.Item, count)
	for a := range list {
		list[a] = itemsOf(s.arrays[a])
	}
	return list
}

// itemsOf: an array's elements, in the order of their keys.
func itemsOf(array map[string]api.Value) []api.Item {
	list := make([]api.Item, 0, len(array))
	for _, key := range keysOf(array) {
		list = append(list, api.Item{Key: key, Val: value.Plain(array[key])})
	}
	return list
}

// fits: whether a plain state is one that a store can hold.
func fits(st api.State) bool {
	if len(st.Vars) > api.MaxVars || len(st.Arrays) > api.MaxArrays || len(st.Fields) > api.MaxFields {
		return false
	}
	return !slices.ContainsFunc(st.Arrays, unsorted)
}

// unsorted: whether an item's key doesn't come behind the key ahead of it.
func unsorted(items []api.Item) bool {
	for i := 1; i < len(items); i++ {
		if items[i].Key <= items[i-1].Key {
			return true
		}
	}
	return false
}
