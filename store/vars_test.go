package store_test

import (
	"math"
	"testing"

	"abacus/api"
	"abacus/store"
	"abacus/value"
)

// faulty: numbers that are outside any list of count things.
func faulty(count int) []int {
	return []int{-1, -2, count, count + 1, 2 * count, 1 << 16, 1 << 32, 1<<32 + 1, maxInt, minInt, minInt + 1}
}

// P22.1: a store as a run begins.
func TestNew(t *testing.T) {
	s := store.New()
	want := plain(str("%.6g"), str("%.6g"), str("\x1c"), str(" "), str(" "), str("\n"), str("\n"), num(0), num(0))
	for i := range vars {
		v := api.Value{}
		if i < len(want) {
			v = want[i]
		}
		holdVar(t, s, i, v, api.OK)
	}
	for a := range arrays {
		holdKeys(t, s, a)
		holdHas(t, s, a, "", false, api.OK)
	}
	holdRecord(t, s, "")
	holdDump(t, s, api.State{Vars: want})
}

// P22.1: the variables with a meaning stand at the numbers that api names.
func TestNamedVariables(t *testing.T) {
	s := store.New()
	for i, text := range map[int]string{api.VarConvfmt: "%.6g", api.VarOfmt: "%.6g", api.VarSubsep: "\x1c", api.VarFs: " ", api.VarOfs: " ", api.VarOrs: "\n", api.VarRs: "\n", api.VarNr: "0", api.VarNf: "0"} {
		holdSetting(t, s, i, text, api.OK)
	}
}

// P22.4: every variable keeps its value, in plain form, beside all others, and the record stays.
func TestVariables(t *testing.T) {
	s := store.New()
	holdSetField(t, s, 0, str("a 1 c"), api.OK)
	fields := plain(str("a"), strnum(1, "1"), str("c"))
	list := []api.Value{num(1), num(math.NaN()), num(math.Copysign(0, -1)), str(""), str("10"), str("\xff\x00"), strnum(7, "z"), strnum(math.NaN(), ""), kind(0), kind(4), kind(-1), kind(maxInt), kind(minInt), kind(1<<32 + 2)}
	for turn := range list {
		for i := range vars {
			if i != api.VarNf {
				holdSetVar(t, s, i, list[(i+turn)%len(list)], api.OK)
			}
		}
		for i := range vars {
			if i != api.VarNf {
				holdVar(t, s, i, value.Plain(list[(i+turn)%len(list)]), api.OK)
			}
		}
		holdRecord(t, s, "a 1 c", fields...)
	}
}

// P22.4, P22.5: numbers outside 0 to MaxVars - 1 are refused, and nothing is changed.
func TestVariableNumbers(t *testing.T) {
	s := store.New()
	before := s.Dump()
	for _, i := range faulty(vars) {
		holdVar(t, s, i, api.Value{}, api.ErrVar)
		holdSetVar(t, s, i, num(1), api.ErrVar)
		holdSetVar(t, s, i, num(math.NaN()), api.ErrVar)
		holdSetting(t, s, i, "", api.ErrVar)
	}
	holdDump(t, s, before)
	holdSetVar(t, s, vars-1, num(1), api.OK)
	holdVar(t, s, vars-1, value.Num(api.One), api.OK)
}

// P22.5: the text of a variable is made by CONVFMT, that of CONVFMT by %.6g.
func TestSettings(t *testing.T) {
	s := store.New()
	for i, c := range []struct {
		v    api.Value
		want string
	}{
		{num(0.1), "0.1"}, {num(1), "1"}, {num(1e6), "1000000"}, {num(1234567.5), "1.23457e+06"}, {num(math.Inf(-1)), "-inf"}, {str("a b"), "a b"}, {strnum(7, "z"), "z"}, {kind(0), ""}, {kind(9), ""},
	} {
		holdSetVar(t, s, 20+i, c.v, api.OK)
		holdSetting(t, s, 20+i, c.want, api.OK)
		holdSetVar(t, s, api.VarConvfmt, c.v, api.OK)
		holdSetting(t, s, api.VarConvfmt, c.want, api.OK)
		holdSetVar(t, s, api.VarConvfmt, str(usual), api.OK)
	}
	holdSetVar(t, s, api.VarConvfmt, str("<%.2f>"), api.OK)
	holdSetting(t, s, 20, "<0.10>", api.OK)
	holdSetting(t, s, 21, "1", api.OK)
	holdSetting(t, s, 25, "a b", api.OK)
	holdSetting(t, s, api.VarConvfmt, "<%.2f>", api.OK)
	holdSetVar(t, s, api.VarOfmt, str("%d"), api.OK)
	holdSetting(t, s, 20, "<0.10>", api.OK)
	holdSetField(t, s, 0, str("p q r"), api.OK)
	holdSetting(t, s, api.VarNf, "3", api.OK)
}

// P22.5: the errors of a text: a CONVFMT that is none, where it is needed, and one that makes too much.
func TestSettingErrors(t *testing.T) {
	s := store.New()
	holdSetVar(t, s, 9, num(0.25), api.OK)
	holdSetVar(t, s, 10, num(2), api.OK)
	for _, convfmt := range []api.Value{num(0.5), str(""), str("%d"), str("%s"), kind(0), strnum(1, "x")} {
		holdSetVar(t, s, api.VarConvfmt, convfmt, api.OK)
		holdSetting(t, s, 9, "", api.ErrConv)
		holdSetting(t, s, 10, "2", api.OK)
		holdSetting(t, s, api.VarNr, "0", api.OK)
		holdSetting(t, s, api.VarFs, " ", api.OK)
	}
	holdSetVar(t, s, api.VarConvfmt, str(row(most-4)+"%g"), api.OK)
	holdSetting(t, s, 9, row(most-4)+"0.25", api.OK)
	holdSetVar(t, s, api.VarConvfmt, str(row(most-3)+"%g"), api.OK)
	holdSetting(t, s, 9, "", api.ErrLong)
	holdSetting(t, s, api.VarConvfmt, row(most-3)+"%g", api.OK)
	holdSetVar(t, s, 9, str(row(most+1)), api.OK)
	holdSetting(t, s, 9, row(most+1), api.OK)
}
