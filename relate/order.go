package relate

import (
	"cmp"
	"slices"
	"strings"

	"abacus/api"
	"abacus/ieee"
	"abacus/value"
)

// behindAll is the place of every NaN among the numbers: ieee.Rank answers less for infinity.
const behindAll = 1<<63 - 1

// rank is all by which Order tells values apart; values that stand at one place have the same.
type rank struct {
	text bool
	num  int64  // of a numeric value
	str  string // of a text
}

// ticket is a rank with a number of its own, which decides where two ranks are the same.
type ticket struct {
	rank
	number int
}

// Order: -1, 0 or 1 in a total order: numbers ahead of strings.
func Order(a api.Value, b api.Value) int { return rankOf(a).compare(rankOf(b)) }

// Sort: the places of vs in Order's order, the earlier of equals first.
func Sort(vs []api.Value) []int {
	tickets := make([]ticket, len(vs))
	for i, v := range vs {
		tickets[i] = ticket{rankOf(v), i}
	}
	slices.SortFunc(tickets, ticket.against)
	places := make([]int, len(vs))
	for i, t := range tickets {
		places[i] = t.number
	}
	return places
}

// Top: the first k of Sort's places.
func Top(vs []api.Value, k int) []int {
	if k < 1 {
		return nil
	}
	places := Sort(vs)
	return slices.Clone(places[:min(k, len(places))]) // so that a few don't hold the memory of all
}

// rankOf shares v's text: it is looked at only.
func rankOf(v api.Value) rank {
	if !value.Numeric(v) {
		return rank{text: true, str: v.Str}
	}
	n, ok := ieee.Rank(value.ToNum(v))
	if !ok {
		n = behindAll
	}
	return rank{num: n}
}

func (r rank) compare(s rank) int {
	switch {
	case r.text && s.text:
		return strings.Compare(r.str, s.str)
	case r.text:
		return 1
	case s.text:
		return -1
	}
	return cmp.Compare(r.num, s.num)
}

// against is 0 only for a ticket and itself, so that no way of sorting is to be seen in what comes out.
func (t ticket) against(u ticket) int {
	if c := t.compare(u.rank); c != 0 {
		return c
	}
	return cmp.Compare(t.number, u.number)
}
