package machine_test

import (
	"fmt"
	"strings"
	"testing"

	"abacus/api"
	"abacus/machine"
	"abacus/store"
)

// P27.1: what is made has at most MaxText bytes; what is only read, and a key of one subscript, may have more.
func TestLongTexts(t *testing.T) {
	full, more := set(x, str(row(most))), set(x, str(row(most+1)))
	long := format(row(most-3) + "%.1f") // 0.5 is written with MaxText bytes, -0.5 with one more
	empty := set(api.VarSubsep, str(""))
	holdLines(t, []line{
		{`var x; str ""; cat`, full, str(row(most)), api.OK, nil},
		{"var x; num 1; cat", full, none, api.ErrLong, nil},
		{`var x; str ""; cat`, more, none, api.ErrLong, nil},
		{"var x", more, str(row(most + 1)), api.OK, nil},
		{"var x; setvar y", more, str(row(most + 1)), api.OK, set(y, str(row(most+1)))},
		{"var x; call length 1", more, num(most + 1), api.OK, nil},
		{"var x; num 2; call substr 2", more, str(row(most)), api.OK, nil},
		{"var x; call toupper 1", more, str(strings.ToUpper(row(most + 1))), api.OK, nil},
		{"var x; var y; rel ==", all(more, set(y, str(row(most)))), num(0), api.OK, nil},
		{"var x; key 1", more, str(row(most + 1)), api.OK, nil},
		{"var x; in a", more, num(0), api.OK, nil},
		{"var x; num 1; setelem a", more, num(1), api.OK, elem(0, row(most+1), num(1))},
		{"var x; elem a", more, none, api.OK, elem(0, row(most+1), none)},
		{`var x; str ""; key 2`, full, none, api.ErrLong, nil},
		{`var x; str ""; key 2`, all(full, empty), str(row(most)), api.OK, nil},
		{`var x; str ""; key 2`, all(more, empty), none, api.ErrLong, nil},
		{`var x; num 1; key 2`, all(full, empty), none, api.ErrLong, nil},
		{`str ""; str ""; key 2`, set(api.VarSubsep, str(row(most))), str(row(most)), api.OK, nil},
		{`str ""; str ""; str ""; key 3`, set(api.VarSubsep, str(row(most))), none, api.ErrLong, nil},
		{`var x; num 1; key 2`, all(full, set(api.VarSubsep, num(0.5)), format("%d")), none, api.ErrConv, nil},
		{`num 0.5; str ""; cat`, long, str(row(most-3) + "0.5"), api.OK, nil},
		{`num -0.5; str ""; cat`, long, none, api.ErrLong, nil},
		{"num -0.5; key 1", long, none, api.ErrLong, nil},
		{"num -0.5; elem a", long, none, api.ErrLong, nil},
		{"num -0.5; num 0; opelem a /", long, none, api.ErrLong, nil},
		{"num -0.5; stepelem a ++v", long, none, api.ErrLong, nil},
		{"num -0.5; in a", long, none, api.ErrLong, nil},
		{`num -0.5; str "x"; rel ==`, long, none, api.ErrLong, nil},
		{"num -0.5; call length 1", long, none, api.ErrLong, nil},
		{`str "%s"; num -0.5; call sprintf 2`, long, none, api.ErrLong, nil},
		{`num -0.5; str "y"; split a`, all(long, elem(0, "k", num(1))), none, api.ErrLong, nil},
		{`num -0.5; str ""; subvar y sub`, long, none, api.ErrLong, nil},
		{`str "q"; str ""; num -0.5; subelem a sub`, long, none, api.ErrLong, nil},
		{`num 1; num 2; key 2`, all(long, set(api.VarSubsep, num(-0.5))), none, api.ErrLong, nil},
		{`str "%s "; var x; call sprintf 2`, full, none, api.ErrLong, nil},
		{`str "x"; str "yy"; subvar x sub`, full, none, api.ErrLong, nil},
		{`str "x"; str "y"; subvar x gsub`, full, num(most), api.OK, set(x, str(strings.Repeat("y", most)))},
		{`str "q"; str "r"; subvar x sub`, more, none, api.ErrLong, nil},
		{`str "x"; str ""; subvar x sub`, more, num(1), api.OK, set(x, str(row(most)))},
		{`str "q"; str "r"; str "k"; subelem a sub`, elem(0, "k", str(row(most+1))), none, api.ErrLong, nil},
		{`var x; str "y"; split a`, more, num(1), api.OK, elem(0, "1", str(row(most+1)))},
		{"num 0; var x; setfield", full, str(row(most)), api.OK, field(0, str(row(most)))},
		{"num 0; var x; setfield", more, none, api.ErrLong, nil},
		{"num 2; var x; setfield", full, none, api.ErrLong, nil},
		{"num 3; setvar NF", set(api.VarOfs, str(row(most/2-3))), num(3), api.OK, set(api.VarNf, num(3))},
		{"num 3; setvar NF", set(api.VarOfs, str(row(most/2-2))), none, api.ErrLong, nil},
	})
}

// many: a code of an instruction again and again, then others.
func many(count int, in api.Instr, then ...api.Instr) []api.Instr {
	var list []api.Instr
	for range count {
		list = append(list, in)
	}
	return append(list, then...)
}

// P27.1, P27.3: codes as long and stacks as high as they may be; one above is no code.
func TestGreatCodes(t *testing.T) {
	one := []uint64{api.One}
	number, step := api.Instr{Word: api.InNum}, api.Instr{Word: api.InStepVar, A: x, B: api.IncBefore}
	pairs := api.Code{Nums: one}
	for range api.MaxCode/2 - 1 {
		pairs.Ops = append(pairs.Ops, step, api.Instr{Word: api.InPop})
	}
	pairs.Ops = append(pairs.Ops, number, api.Instr{Word: api.InNeg})
	count := num(api.MaxCode/2 - 1)
	hold(t, "a long code", pairs, begun(), told{num(-1), api.MaxCode, api.OK}, made(set(x, count)))
	pairs.Ops = append(pairs.Ops, api.Instr{Word: api.InNeg})
	hold(t, "a code that is too long", pairs, begun(), told{none, 0, api.ErrCode}, begun())

	jumps := api.Code{Nums: one}
	for i := range api.MaxCode - 1 {
		jumps.Ops = append(jumps.Ops, api.Instr{Word: api.InJump, A: i + 1})
	}
	jumps.Ops = append(jumps.Ops, number)
	hold(t, "many jumps", jumps, begun(), told{num(1), api.MaxCode, api.OK}, begun())
	jumps.Ops[0].A = api.MaxCode - 1
	hold(t, "a far jump", jumps, begun(), told{num(1), 2, api.OK}, begun())

	high := api.MaxStack
	for what, c := range map[string]api.Code{
		"sum":     {Ops: many(high, number, api.Instr{Word: api.InCall, A: api.FnSum, B: high}), Nums: one},
		"sprintf": {Ops: append([]api.Instr{{Word: api.InStr}}, many(high-1, number, api.Instr{Word: api.InCall, A: api.FnSprintf, B: high})...), Nums: one, Strs: []string{strings.Repeat("%d", high-1)}},
		"key":     {Ops: many(high, number, api.Instr{Word: api.InKey, A: high}), Nums: one},
		"pop":     {Ops: many(high, number, many(high-1, api.Instr{Word: api.InPop})...), Nums: one},
		"cat":     {Ops: many(high, number, many(high-1, api.Instr{Word: api.InCat})...), Nums: one},
		"bin":     {Ops: many(high, number, many(high-1, api.Instr{Word: api.InBin, A: api.OpAdd})...), Nums: one},
	} {
		want := map[string]api.Value{
			"sum": num(float64(high)), "sprintf": str(strings.Repeat("1", high-1)), "key": str(strings.TrimSuffix(strings.Repeat("1\x1c", high), "\x1c")),
			"pop": num(1), "cat": str(strings.Repeat("1", high)), "bin": num(float64(high)),
		}[what]
		hold(t, what, c, begun(), told{want, len(c.Ops), api.OK}, begun())
	}
	over := api.Code{Ops: many(high+1, number, many(high, api.Instr{Word: api.InPop})...), Nums: one}
	hold(t, "a stack that is too high", over, begun(), told{none, 0, api.ErrCode}, begun())
}

// P27.1: a long text of the code that is put again and again is not so much memory each time.
func TestLongTextAgain(t *testing.T) {
	c := api.Code{Ops: many(api.MaxStack, api.Instr{Word: api.InStr}, many(api.MaxStack-1, api.Instr{Word: api.InPop})...), Strs: []string{row(most)}}
	hold(t, "a long text", c, begun(), told{str(row(most)), len(c.Ops), api.OK}, begun())
}

// P27.1, P27.2: ErrCode comes first, then ErrState; neither does anything.
func TestWrongCodes(t *testing.T) {
	bad := api.State{Arrays: [][]api.Item{{{Key: "b"}, {Key: "a"}}}}
	good := made(set(x, num(5)), elem(0, "k", str("v")), field(3, num(1)))
	const top = 1<<63 - 1
	codes := map[string]api.Code{"nothing": {}, "numbers alone": {Nums: []uint64{1}, Strs: []string{"x"}}, "too many": {Ops: make([]api.Instr, api.MaxCode+1)}}
	for _, in := range []api.Instr{
		{}, {Word: -1}, {Word: 34}, {Word: top}, {Word: -top - 1}, {Word: api.InNum, A: 1}, {Word: api.InNum, A: -1}, {Word: api.InNum, A: top}, {Word: api.InNum, B: 1}, {Word: api.InStr}, {Word: api.InStr, A: -1},
		{Word: api.InVar, A: 256}, {Word: api.InVar, A: -1}, {Word: api.InStepVar, A: x}, {Word: api.InStepVar, A: x, B: 5}, {Word: api.InAsort, A: 64}, {Word: api.InAsort, A: -1}, {Word: api.InJump}, {Word: api.InJump, A: 9},
		{Word: api.InKey}, {Word: api.InKey, A: -1}, {Word: api.InKey, A: top}, {Word: api.InPop, A: 1},
		{Word: api.InCall, A: api.FnSum}, {Word: api.InCall, A: api.FnSum, B: top}, {Word: api.InCall, A: api.FnSplit, B: 2}, {Word: api.InCall, A: api.FnAsort}, {Word: api.InCall, A: api.FnGsub, B: 3}, {Word: api.InCall, A: 14, B: 1},
	} {
		// Ahead of it stands what would change the store.
		codes[brief(in)] = api.Code{Ops: []api.Instr{{Word: api.InStepVar, A: x, B: api.IncAfter}, in, {Word: api.InPop}}, Nums: []uint64{1}}
	}
	for _, text := range []string{
		"pop", "stepvar x v++; pop", "stepvar x v++; pop; pop", "stepvar x v++; stepvar x v++", "stepvar x v++; setelem a", "stepvar x v++; key 2", "stepvar x v++; call index 2",
		"stepvar x v++; bin 0", "stepvar x v++; stepvar x v++; bin 7", "stepvar x v++; stepvar x v++; rel 7", "stepvar x v++; opvar x 7", "num 5; num 7; subvar x 9",
		"stepvar x v++; jump 1", "stepvar x v++; jump 0", "stepvar x v++; jump 3", "stepvar x v++; if 2", "stepvar x v++; ifnot 3; num 1", "stepvar x v++; if 3; num 1",
	} {
		codes[text] = read(t, text)
	}
	for what, c := range codes {
		hold(t, what, c, copyOf(t, good), told{none, 0, api.ErrCode}, good)
		if v, steps, e := machine.Run(c, nil); v != none || steps != 0 || e != api.ErrCode {
			t.Errorf("Run of %s without a store: %s, %d steps, error %d", what, brief(v), steps, e)
		}
		if v, st, steps, e := machine.RunState(c, bad); v != none || !same(st, api.State{}) || steps != 0 || e != api.ErrCode {
			t.Errorf("RunState of %s over no state: %s, %s, %d steps, error %d", what, brief(v), brief(st), steps, e)
		}
	}
}

// P27.1, P27.2: no store, and states that are none.
func TestWrongStates(t *testing.T) {
	items := func(keys ...string) (list []api.Item) {
		for _, key := range keys {
			list = append(list, api.Item{Key: key})
		}
		return list
	}
	for _, text := range []string{"num 1", "var x", "num 1; setvar x", "num 1; num 0; bin /", "num 1; elem a", "asort a", "var NF"} {
		c := read(t, text)
		if v, steps, e := machine.Run(c, nil); v != none || steps != 0 || e != api.ErrState {
			t.Errorf("Run of %s without a store: %s, %d steps, error %d", text, brief(v), steps, e)
		}
		for _, st := range []api.State{
			{Vars: make([]api.Value, api.MaxVars+1)}, {Arrays: make([][]api.Item, api.MaxArrays+1)}, {Fields: make([]api.Value, api.MaxFields+1)},
			{Arrays: [][]api.Item{items("b", "a")}}, {Arrays: [][]api.Item{nil, items("a", "a")}},
		} {
			if v, got, steps, e := machine.RunState(c, st); v != none || !same(got, api.State{}) || steps != 0 || e != api.ErrState {
				t.Errorf("RunState of %s over no state: %s, %s, %d steps, error %d", text, brief(v), brief(got), steps, e)
			}
		}
	}
	// The zero State is one, without a CONVFMT.
	for text, want := range map[string]api.Value{"var x": none, "var NF": num(0), "num 0; field": str(""), `num 1; str ""; cat`: str("1"), "num 1; num 2; key 2": str("12"), `str "%.1f"; setvar CONVFMT`: str("%.1f")} {
		if v, _, _, e := machine.RunState(read(t, text), api.State{}); v != want || e != api.OK {
			t.Errorf("RunState of %s over the zero State: %s, error %d", text, brief(v), e)
		}
	}
	if v, st, steps, e := machine.RunState(read(t, "num 1; setvar x; num 0.5; cat"), api.State{}); v != none || steps != 0 || e != api.ErrConv || len(st.Vars) != x+1 || st.Vars[x] != num(1) {
		t.Errorf("RunState behind an error: %s, %s, %d steps, error %d", brief(v), brief(st), steps, e)
	}
	// Raw values become plain, text and fields need not fit.
	raw := api.State{Vars: []api.Value{{Kind: 9, Num: 1, Str: "x"}, {Kind: api.KindNum, Num: 2, Str: "y"}}, Record: "p q r", Fields: []api.Value{{Kind: api.KindStr, Num: 5, Str: "z"}}}
	for text, v := range map[string]api.Value{"var CONVFMT": none, "var OFMT": pattern(2), "var NF": num(1), "num 0; field": str("p q r"), "num 1; field": str("z"), "num 2; field": none} {
		s, _ := store.Load(raw)
		c := read(t, text)
		hold(t, fmt.Sprintf("%s over a raw state", text), c, s, told{v, len(c.Ops), api.OK}, copyOf(t, s))
	}
	// A store that was written by hand makes no call panic.
	for _, text := range []string{"var NF", "num 1; setvar NF", "num 1; num 2; setfield", "num 0; num 2; setfield", "num 1; field", "num 1; stepelem a v++", "num 5; setvar x", "num 0.5; num 1; cat"} {
		machine.Run(read(t, text), &store.Store{})
	}
}
