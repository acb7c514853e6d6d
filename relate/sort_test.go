package relate_test

import (
	"slices"
	"sort"
	"testing"

	"abacus/api"
	"abacus/relate"
)

// places: the places of vs as Sort must answer them, by a stable sort of the library and a comparison of these tests.
func places(vs []api.Value) []int {
	list := make([]int, len(vs))
	for i := range list {
		list[i] = i
	}
	sort.SliceStable(list, func(i int, j int) bool { return inOrder(vs[list[i]], vs[list[j]]) < 0 })
	return list
}

// holdSort: Sort must answer these places, and Top the beginning of them, for counts within, at the ends and beyond.
func holdSort(t *testing.T, vs []api.Value, want []int) {
	t.Helper()
	given := slices.Clone(vs)
	if got := relate.Sort(vs); !slices.Equal(got, want) {
		t.Fatalf("Sort of %d values: %v; want %v", len(vs), got, want)
	}
	n := len(vs)
	for _, k := range []int{minInt, minInt + 1, -n, -2, -1, 0, 1, 2, 3, n / 2, n - 2, n - 1, n, n + 1, n + 2, 2 * n, maxInt - 1, maxInt} {
		if got := relate.Top(vs, k); !slices.Equal(got, want[:min(max(k, 0), n)]) {
			t.Fatalf("Top of %d values with %d: %v; want the beginning of %v", n, k, got, want)
		}
	}
	if !slices.Equal(vs, given) {
		t.Fatalf("the list was changed: %v, then %v", given, vs)
	}
}

// P18.3: the document's example, and lists of none and of one.
func TestSortExamples(t *testing.T) {
	holdSort(t, []api.Value{str("b"), num(2), pattern(api.NaN), {}, str(""), strnum(2, "2.0")}, []int{3, 1, 5, 2, 4, 0})
	holdSort(t, nil, nil)
	holdSort(t, []api.Value{}, nil)
	holdSort(t, []api.Value{str("x")}, []int{0})
	holdSort(t, []api.Value{str("b"), num(10), num(9), strnum(10, "1e1"), str("a")}, []int{2, 1, 3, 4, 0})
	holdSort(t, []api.Value{kind(-1), num(0), pattern(minus), {}, strnum(0, "x")}, []int{0, 1, 2, 3, 4})
	holdSort(t, []api.Value{pattern(api.NaN), pattern(minus | api.NaN), pattern(api.Inf + 1), pattern(api.Inf)}, []int{3, 0, 1, 2})
}

// P18.3: every order of four values, two of which stand at one place.
func TestSortPermuted(t *testing.T) {
	list := []api.Value{num(1), strnum(1, "1."), str("1"), pattern(api.NaN)}
	for code := range 256 {
		vs := []api.Value{list[code&3], list[code>>2&3], list[code>>4&3], list[code>>6]}
		holdSort(t, vs, places(vs))
	}
}

// P18.3: the samples forward and backward, and drawn lists of many lengths, in which many values stand at one place.
func TestSortDrawn(t *testing.T) {
	list := samples()
	holdSort(t, list, places(list))
	slices.Reverse(list)
	holdSort(t, list, places(list))
	seed := uint64(183)
	for n := range 300 {
		vs := drawList(&seed, n)
		holdSort(t, vs, places(vs))
	}
	for _, n := range []int{1000, 4096, 20000} {
		vs := drawList(&seed, n)
		holdSort(t, vs, places(vs))
	}
}

// P18.3: long lists, sorted ahead, backward, and all at one place.
func TestSortLong(t *testing.T) {
	const n = 100000
	vs, want := make([]api.Value, n), make([]int, n)
	for i := range vs {
		vs[i], want[i] = num(float64(i)), i
	}
	holdSort(t, vs, want)
	slices.Reverse(want)
	for i := range vs {
		vs[i] = num(float64(n - i))
	}
	holdSort(t, vs, want)
	slices.Reverse(want)
	for i := range vs {
		vs[i] = str("same")
	}
	holdSort(t, vs, want)
}
