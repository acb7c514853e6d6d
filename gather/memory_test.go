package gather_test

import (
	"slices"
	"testing"

	"abacus/gather"
)

// P7.8, rule 3: no list is changed, its spare room neither.
func TestListsStay(t *testing.T) {
	seed := uint64(82)
	for _, n := range []int{0, 1, 5, 1024, 3000} {
		all := append(drawMany(&seed, n), filled(7, 0x5555)...)
		kept, list := slices.Clone(all), all[:n]
		gather.Sum(list)
		gather.SumOf(list...)
		gather.Dot(list, list)
		gather.Mean(list)
		gather.Variance(list)
		gather.Hypot(list...)
		if !slices.Equal(all, kept) {
			t.Errorf("a list of %d doubles was changed", n)
		}
	}
}

// P7.8, rule 4: no list is kept: what is asked later hangs on what is handed in then.
func TestListsAreNotKept(t *testing.T) {
	seed := uint64(83)
	list := drawMany(&seed, 2000)
	gather.Sum(list)
	gather.Dot(list, list)
	gather.Hypot(list...)
	for i := range list {
		list[i] = draw(&seed)
	}
	sums(t, list, over(single(list), 1))
	dots(t, list, list, over(pairs(list, list), 1))
	means(t, list, over(single(list), len(list)))
}

// Rule 4: calls side by side don't see each other.
func TestSideBySide(t *testing.T) {
	seed := uint64(84)
	lists, wants, got := make([][]uint64, 16), make([]uint64, 16), make([]uint64, 16)
	for i := range lists {
		lists[i] = drawMany(&seed, 1500)
		wants[i] = over(single(lists[i]), 1)
	}
	done := make(chan int)
	for i := range lists {
		go func() {
			got[i] = gather.Sum(lists[i])
			done <- i
		}()
	}
	for range lists {
		<-done
	}
	if !slices.Equal(got, wants) {
		t.Errorf("sums side by side are %016x; want %016x", got, wants)
	}
}
