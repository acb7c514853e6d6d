package tree

import (
	"slices"
	"strings"

	"abacus/api"
	"abacus/token"
)

// own: the names of the variables that have a meaning of their own, in the order of their numbers.
var own = [...]string{"CONVFMT", "OFMT", "SUBSEP", "FS", "OFS", "ORS", "RS", "NR", "NF"}

// maxOwn: how many variables a script can name itself.
const maxOwn = api.MaxVars - api.VarFirst

// ownNumber is the number of the variable with a meaning of its own that has this name; -1 if there is none.
func ownNumber(name string) int {
	for i, other := range own {
		if name == other {
			return i
		}
	}
	return -1
}

// right tells whether names are right.
func right(names api.Names) bool {
	for _, name := range names.Vars[:min(len(names.Vars), maxOwn)] {
		if ownNumber(name) >= 0 {
			return false
		}
	}
	return rightList(names.Vars, maxOwn) && rightList(names.Arrays, api.MaxArrays)
}

// rightList tells whether a list has no more than so many entries, all of them names and none of them twice.
func rightList(list []string, most int) bool {
	if len(list) > most {
		return false
	}
	for _, name := range list {
		if token.Word(name) != api.TokName {
			return false
		}
	}
	sorted := slices.Sorted(slices.Values(list))
	return len(slices.Compact(sorted)) == len(list)
}

// variableName is the name of variable i; "" if it has none.
func variableName(i int, names api.Names) string {
	switch {
	case i < 0:
		return ""
	case i < api.VarFirst:
		return own[i]
	}
	return entry(names.Vars, i-api.VarFirst)
}

// entry is the name at place i of a list; "" behind its end.
func entry(list []string, i int) string {
	if i < len(list) {
		return list[i]
	}
	return ""
}

// copied is a list of the same texts, nothing of which is the caller's memory.
func copied(list []string) []string {
	out := make([]string, len(list))
	for i, name := range list {
		out[i] = strings.Clone(name)
	}
	return out
}
