package machine_test

import (
	"testing"

	"abacus/api"
)

// P27.1, P27.2: the chapter's examples.
func TestExamples(t *testing.T) {
	holdLines(t, []line{
		{"num 3", nil, num(3), api.OK, nil},
		{`str "a"; num 2; cat`, nil, str("a2"), api.OK, nil},
		{"num 5; setvar x; pop; num 5; num 0; bin /", nil, none, api.ErrDivide, set(x, num(5))},
		{"num 1; num 2; key 2; num 2; setelem a", nil, num(2), api.OK, elem(0, "1\x1c2", num(2))},
		{"num 1; stepfield ++v", field(0, str("4 b")), num(5), api.OK, field(1, num(5))},
		{"num -1; field", nil, none, api.ErrField, nil},
		{"pop", nil, none, api.ErrCode, nil},
	})
	s := made(field(0, str("4 b")), field(1, num(5)))
	if v, _ := s.Field(0); v != str("5 b") {
		t.Errorf("the record is %s", brief(v))
	}
	hold(t, "nothing", api.Code{}, begun(), told{none, 0, api.ErrCode}, begun())
	for truth, want := range map[float64]told{0: {num(8), 3, api.OK}, 1: {num(7), 4, api.OK}} {
		c := read(t, "num 0; ifnot 4; num 7; jump 5; num 8")
		c.Nums[0] = bits(truth)
		hold(t, truth, c, begun(), want, begun())
	}
}

// P27.1: numbers of any bits, strings of any bytes, variables of any kind.
func TestLeaves(t *testing.T) {
	for _, d := range []uint64{0, 1, api.One, api.Sign, api.Most, api.Inf, api.Inf | api.Sign, api.NaN, api.NaN | api.Sign, api.NaN | 7, api.Inf + 1, 1<<64 - 1} {
		for text, want := range map[string]uint64{"num 0": d, "num 0; pos": d, "num 0; neg": d ^ api.Sign} {
			c := read(t, text)
			c.Nums[0] = d
			hold(t, text, c, begun(), told{pattern(want), len(c.Ops), api.OK}, begun())
		}
	}
	for _, text := range []string{"", "10", "a\x00\xff\n\"", row(most), row(most + 1)} {
		c := api.Code{Ops: []api.Instr{{Word: api.InStr, A: 1}}, Strs: []string{"other", text, "another"}}
		hold(t, "a string", c, begun(), told{str(text), 1, api.OK}, begun())
	}
	c := api.Code{Ops: []api.Instr{{Word: api.InNum, A: 2}, {Word: api.InNum, A: 0}, {Word: api.InBin, A: api.OpSub}}, Nums: []uint64{bits(1), bits(2), bits(4)}}
	hold(t, "numbers by their places", c, begun(), told{num(3), 3, api.OK}, begun())
	for i := range api.MaxVars {
		for _, v := range []api.Value{none, num(7), pattern(api.NaN | 5), str("s"), strnum(8, "9")} {
			s := made(set(i, v))
			want, _ := s.Var(i)
			c := api.Code{Ops: []api.Instr{{Word: api.InVar, A: i}}}
			hold(t, "a variable", c, s, told{want, 1, api.OK}, made(set(i, v)))
		}
	}
	for a := range api.MaxArrays {
		c := api.Code{Ops: []api.Instr{{Word: api.InStr}, {Word: api.InElem, A: a}}, Strs: []string{"k"}}
		hold(t, "an array", c, made(elem(a, "k", strnum(8, "9"))), told{strnum(8, "9"), 2, api.OK}, made(elem(a, "k", strnum(8, "9"))))
		hold(t, "an array", c, begun(), told{none, 2, api.OK}, made(elem(a, "k", none)))
	}
}
