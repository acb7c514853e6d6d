package machine_test

import (
	"fmt"
	"slices"
	"sync"
	"testing"
	"unsafe"

	"abacus/api"
	"abacus/machine"
	"abacus/store"
)

// shares: whether two texts lie in one memory, in part at least.
func shares(a string, b string) bool {
	if a == "" || b == "" {
		return false
	}
	p, q := uintptr(unsafe.Pointer(unsafe.StringData(a))), uintptr(unsafe.Pointer(unsafe.StringData(b)))
	return p < q+uintptr(len(b)) && q < p+uintptr(len(a))
}

// texts: all the texts of a state.
func texts(st api.State) []string {
	list := []string{st.Record}
	for _, v := range slices.Concat(st.Vars, st.Fields) {
		list = append(list, v.Str)
	}
	for _, array := range st.Arrays {
		for _, item := range array {
			list = append(list, item.Key, item.Val.Str)
		}
	}
	return list
}

// keeping: codes that keep or answer the text s, which is one of the code's or stands in variable z.
func keeping(t *testing.T, s string) map[string]api.Code {
	list := map[string]api.Code{}
	for where, put := range map[string]string{"the code's": `str "?"`, "the variable's": "var z"} {
		for what, text := range map[string]string{
			"text": put, "text in a variable": put + "; setvar x", "text in CONVFMT": put + "; setvar CONVFMT",
			"text in a record": "num 0; " + put + "; setfield", "text in a field": "num 2; " + put + "; setfield", "text in an element": "num 2; " + put + "; setelem a",
			"text as a key": put + "; elem a", "text as a key that is written": put + "; num 1; setelem a", "text made a key": put + "; key 1", "text made a key that is read": put + "; key 1; elem a",
			"text as a part": put + `; var y; split a`, "text in its place": `str ""; ` + put + "; subvar x sub", "text put together": put + `; str ""; cat`,
			"text as a format": put + "; call sprintf 1", "text cut": put + "; num 1; call substr 2", "text below": put + "; num 1; pop", "text jumped to": put + "; num 1; if 4; neg",
		} {
			c := read(t, text)
			if i := slices.Index(c.Strs, "?"); i >= 0 {
				c.Strs[i] = s // itself, not a copy
			}
			list[where+" "+what] = c
		}
	}
	return list
}

// P2: an answer shares no memory with the code, the store or the state, and neither does a store or a state that is answered with a code or with the state that was given.
func TestNewMemory(t *testing.T) {
	for _, given := range []string{"e", "te xt", row(500)} {
		s := string([]byte(given))
		for what, c := range keeping(t, s) {
			of := made(set(z, str(s)), set(y, str("never")))
			st := of.Dump()
			v, _, e := machine.Run(c, of)
			if e != api.OK {
				t.Fatalf("%s: error %d", what, e)
			}
			w, behind, _, _ := machine.RunState(c, st)
			if v != w || shares(v.Str, w.Str) || shares(v.Str, s) || shares(w.Str, s) {
				t.Errorf("%s: the answer is not new memory", what)
			}
			inside := texts(st)
			for _, text := range slices.Concat(texts(of.Dump()), texts(behind)) {
				if shares(text, s) || shares(text, v.Str) || shares(text, w.Str) {
					t.Errorf("%s: what the store holds is not new memory", what)
				}
			}
			for _, text := range texts(behind) {
				for _, old := range inside {
					if shares(text, old) {
						t.Errorf("%s: the state behind shares %.20q with the one ahead", what, text)
					}
				}
			}
		}
	}
}

// P2: a code's text that is written over behind the call changes neither the answer nor the store.
func TestTextsAreNotKept(t *testing.T) {
	const given = "te xt"
	for what, c := range keeping(t, given) {
		memory := []byte(given)
		again := keeping(t, unsafe.String(&memory[0], len(memory)))[what]
		of, want := made(set(z, str(given)), set(y, str("never"))), made(set(z, str(given)), set(y, str("never")))
		v, _, _ := machine.Run(again, of)
		w, _, _ := machine.Run(c, want)
		copy(memory, "zzzzz")
		if v != w || !same(of.Dump(), want.Dump()) {
			t.Errorf("%s: %s, %s; want %s, %s", what, brief(v), brief(of.Dump()), brief(w), brief(want.Dump()))
		}
	}
}

// P2: the lists that are handed in aren't changed or kept, their spare room neither; those that are answered are the caller's.
func TestLists(t *testing.T) {
	c := read(t, `str "p q"; str " "; split a; asort b; setvar x; setfield; str "%s %s %s"; num 1; num 2; num 3; call sprintf 4; key 2`)
	ops, nums, strs := append(c.Ops, api.Instr{Word: 77}, api.Instr{}), append(c.Nums, 5), append(c.Strs, "spare")
	vars := []api.Value{str("%.6g"), str("o"), str("spare")}
	items := []api.Item{{Key: "a", Val: num(2)}, {Key: "b", Val: num(1)}, {Key: "spare"}}
	lists := [][]api.Item{nil, items[:2], {{Key: "spare"}}}
	fields := []api.Value{num(1), str("f"), str("spare"), str("spare"), str("spare")}
	kept := fmt.Sprint(ops, nums, strs, vars, items, lists, fields)
	c = api.Code{Ops: ops[:len(c.Ops)], Nums: nums[:len(c.Nums)], Strs: strs[:len(c.Strs)]}
	st := api.State{Vars: vars[:2], Arrays: lists[:2], Record: "r", Fields: fields[:2]}
	v, got, steps, e := machine.RunState(c, st)
	if v != str("21 2 3") || steps != len(c.Ops) || e != api.OK {
		t.Errorf("RunState: %s, %d steps, error %d", brief(v), steps, e)
	}
	want := fmt.Sprint(got)
	if fmt.Sprint(ops, nums, strs, vars, items, lists, fields) != kept {
		t.Errorf("the lists became %v, %v, %v, %v, %v, %v, %v", ops, nums, strs, vars, items, lists, fields)
	}
	_, again, _, _ := machine.RunState(c, st)
	for _, array := range again.Arrays {
		clear(array[:cap(array)])
	}
	clear(again.Vars[:cap(again.Vars)])
	clear(again.Arrays[:cap(again.Arrays)])
	clear(again.Fields[:cap(again.Fields)])
	clear(ops)
	clear(nums)
	clear(strs)
	clear(vars)
	clear(items)
	clear(lists)
	clear(fields)
	if fmt.Sprint(got) != want {
		t.Errorf("the state behind became %s, want %s", brief(got), want)
	}
}

// P2: the same calls answer the same, whatever was called ahead of them or beside them.
func TestNothingIsKept(t *testing.T) {
	var codes []api.Code
	for _, text := range []string{
		"stepvar y v++; opvar x +", `var x; var y; key 2; str "%.3f"; setvar CONVFMT; setelem a`, `num 0; field; str " "; split b; asort b; cat`, `str "a"; str "b"; num 0; subfield gsub`,
		"num 1; num 0; bin /", "num 5; setvar NF", "var x; var y; num 0.1; num 0.2; call sum 4", "num 9; field", "num 3; var x; if 4; neg", "pop",
	} {
		codes = append(codes, read(t, text))
	}
	run := func(s *store.Store) string {
		var list []any
		for _, c := range codes {
			v, steps, e := machine.Run(c, s)
			w, st, n, f := machine.RunState(c, s.Dump())
			list = append(list, v, steps, e, w, st, n, f)
		}
		return fmt.Sprint(append(list, s.Dump())...)
	}
	want := run(begun())
	var group sync.WaitGroup
	for range 8 {
		group.Go(func() {
			for range 20 {
				if got := run(begun()); got != want {
					t.Errorf("%s, then %s", want, got)
				}
			}
		})
	}
	group.Wait()
}
