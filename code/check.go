package code

import "abacus/api"

// right tells whether the instruction at place i of a code is right in it.
func (t *table) right(c api.Code, i int) bool {
	in := c.Ops[i]
	if _, _, ok := t.effect(in); !ok {
		return false
	}
	switch t[in.Word].a {
	case numPlace:
		return in.A < len(c.Nums)
	case strPlace:
		return in.A < len(c.Strs)
	case codePlace:
		return within(in.A, i+1, len(c.Ops))
	}
	return true
}

// unreached is a list of so many places to which no way has come yet.
func unreached(count int) []int {
	heights := make([]int, count)
	for i := range heights {
		heights[i] = -1
	}
	return heights
}

// pass gives the height behind the instruction at place i to the places to which it goes on; false if the instruction isn't fit.
func (t *table) pass(in api.Instr, i int, heights []int) bool {
	takes, puts, _ := t.effect(in)
	behind := heights[i] - takes + puts
	if takes > heights[i] || behind > api.MaxStack {
		return false
	}
	if in.Word != api.InJump && !give(heights, i+1, behind) {
		return false
	}
	return t[in.Word].a != codePlace || give(heights, in.A, behind)
}

// give lets a place have this height; false if it has another one.
func give(heights []int, place int, height int) bool {
	// Jumps go forward alone, so that whatever stands there came from a lower place.
	if heights[place] < 0 {
		heights[place] = height
	}
	return heights[place] == height
}
