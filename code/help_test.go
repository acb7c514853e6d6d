package code_test

import (
	"fmt"
	"slices"
	"strconv"
	"strings"
	"testing"

	"abacus/api"
	"abacus/code"
)

type in = api.Instr

const (
	maxInt   = 1<<63 - 1
	minInt   = -1 << 63
	maxCode  = 131072
	maxStack = 32768
	maxText  = 1 << 24
)

// random: a number from a fixed row (splitmix64), so that every run tests the same.
func random(seed *uint64) uint64 {
	*seed += 0x9e3779b97f4a7c15
	z := *seed
	z = (z ^ z>>30) * 0xbf58476d1ce4e5b9
	z = (z ^ z>>27) * 0x94d049bb133111eb
	return z ^ z>>31
}

// between: a number from low to high.
func between(seed *uint64, low int, high int) int {
	return low + int(random(seed)%uint64(high-low+1))
}

// pick: one of these.
func pick[T any](seed *uint64, list ...T) T { return list[between(seed, 0, len(list)-1)] }

// brief: enough of a thing to know it by.
func brief(x any) string {
	text := fmt.Sprintf("%+v", x)
	if len(text) > 400 {
		return text[:400] + ".."
	}
	return text
}

// The document's table: name, A, B, takes, puts, in the order of the words' numbers.
const rows = `
num nums - 0 1
str strs - 0 1
var variable - 0 1
setvar variable - 1 1
opvar variable operator 1 1
stepvar variable step 0 1
subvar variable sub 2 1
field - - 1 1
setfield - - 2 1
opfield - operator 2 1
stepfield - step 1 1
subfield - sub 3 1
key many - A 1
elem array - 1 1
setelem array - 2 1
opelem array operator 2 1
stepelem array step 1 1
subelem array sub 3 1
in array - 1 1
neg - - 1 1
pos - - 1 1
not - - 1 1
truth - - 1 1
bin operator - 2 1
cat - - 2 1
rel relation - 2 1
jump place - 0 0
ifnot place - 1 0
if place - 1 0
pop - - 1 0
call function arguments B 1
split array - 2 1
asort array - 0 1
`

// shape: a row of it, and all of them by the words' numbers.
type shape struct{ name, a, b, takes, puts string }

var shapes = func() []shape {
	list := []shape{{}}
	for _, line := range strings.Split(strings.TrimSpace(rows), "\n") {
		f := strings.Fields(line)
		list = append(list, shape{f[0], f[1], f[2], f[3], f[4]})
	}
	return list
}()

// ranges: what a field may hold, from and to.
var ranges = map[string][2]int{
	"-": {0, 0}, "nums": {0, maxInt}, "strs": {0, maxInt}, "variable": {0, 255}, "array": {0, 63}, "operator": {1, 6}, "step": {1, 4}, "relation": {1, 6}, "sub": {10, 11}, "many": {1, 32768}, "place": {1, maxInt}, "function": {1, 13},
}

// called: with how many arguments a function may be called, from and to.
var called = map[int][2]int{1: {1, 1}, 2: {2, 3}, 3: {2, 2}, 4: {1, 32768}, 6: {1, 1}, 7: {1, 1}, 8: {1, 1}, 9: {1, 1}, 12: {1, 32768}}

// effect: what Effect must answer.
func effect(i api.Instr) (int, int, bool) {
	if i.Word < 1 || i.Word > 33 {
		return 0, 0, false
	}
	s := shapes[i.Word]
	a, b := ranges[s.a], ranges[s.b]
	if s.b == "arguments" {
		var ok bool
		if b, ok = called[i.A]; !ok {
			return 0, 0, false
		}
	}
	if i.A < a[0] || i.A > a[1] || i.B < b[0] || i.B > b[1] {
		return 0, 0, false
	}
	return number(s.takes, i), number(s.puts, i), true
}

// number: a column's number of an instruction.
func number(column string, i api.Instr) int {
	switch column {
	case "A":
		return i.A
	case "B":
		return i.B
	}
	n, _ := strconv.Atoi(column)
	return n
}

// ways: to which places an instruction goes on.
func ways(i api.Instr, place int) []int {
	switch shapes[i.Word].name {
	case "jump":
		return []int{i.A}
	case "if", "ifnot":
		return []int{place + 1, i.A}
	}
	return []int{place + 1}
}

// isRight: whether the instruction at a place is right in a code.
func isRight(c api.Code, place int) bool {
	i := c.Ops[place]
	if _, _, ok := effect(i); !ok {
		return false
	}
	switch shapes[i.Word].a {
	case "nums":
		return i.A < len(c.Nums)
	case "strs":
		return i.A < len(c.Strs)
	case "place":
		return i.A > place && i.A <= len(c.Ops)
	}
	return true
}

// heights: what Heights must answer. A place's height is told backwards, by the lowest instruction that is reached and goes on to it.
func heights(c api.Code) ([]int, int, api.Errno) {
	n := len(c.Ops)
	if n > maxCode {
		return nil, maxCode, api.ErrCode
	}
	for i := range n {
		if !isRight(c, i) {
			return nil, i, api.ErrCode
		}
	}
	comes := make([][]int, n+1) // from where
	for i, op := range c.Ops {
		for _, to := range ways(op, i) {
			comes[to] = append(comes[to], i)
		}
	}
	behind := func(h []int, i int) int {
		takes, puts, _ := effect(c.Ops[i])
		return h[i] - takes + puts
	}
	h := []int{0}
	for place := 1; place <= n; place++ {
		height := -1
		for _, from := range comes[place] {
			if h[from] >= 0 {
				height = behind(h, from)
				break
			}
		}
		// One that is only given by an instruction that isn't fit is never looked at.
		h = append(h, height)
	}
	for i, op := range c.Ops {
		takes, _, _ := effect(op)
		if h[i] < 0 {
			continue
		}
		fit := h[i] >= takes && behind(h, i) <= maxStack
		for _, to := range ways(op, i) {
			fit = fit && h[to] == behind(h, i)
		}
		if !fit {
			return nil, i, api.ErrCode
		}
	}
	if h[n] != 1 {
		return nil, n, api.ErrCode
	}
	return h, 0, api.OK
}

// hold: whether Heights and Check answer as they must.
func hold(t *testing.T, c api.Code) api.Errno {
	t.Helper()
	want, at, e := heights(c)
	got, place, f := code.Heights(c)
	if !slices.Equal(got, want) || place != at || f != e {
		t.Fatalf("Heights(%s) = %s, %d, %d, want %s, %d, %d", brief(c), brief(got), place, f, brief(want), at, e)
	}
	most := 0
	for _, h := range want {
		most = max(most, h)
	}
	if m, place, f := code.Check(c); m != most || place != at || f != e {
		t.Fatalf("Check(%s) = %d, %d, %d, want %d, %d, %d", brief(c), m, place, f, most, at, e)
	}
	return e
}

// same: whether two codes are the same.
func same(a api.Code, b api.Code) bool {
	return slices.Equal(a.Ops, b.Ops) && slices.Equal(a.Nums, b.Nums) && slices.Equal(a.Strs, b.Strs)
}

// isNone: whether a code has nothing.
func isNone(c api.Code) bool { return len(c.Ops)+len(c.Nums)+len(c.Strs) == 0 }

// drawn: a code that is being drawn.
type drawn struct {
	api.Code
	seed *uint64
}

func (d *drawn) op(word int, a int, b int) {
	d.Ops = append(d.Ops, api.Instr{Word: word, A: a, B: b})
}

// drawField: what a field may hold.
func (d *drawn) drawField(what string) int {
	switch what {
	case "nums":
		return between(d.seed, 0, len(d.Nums)-1)
	case "strs":
		return between(d.seed, 0, len(d.Strs)-1)
	}
	r := ranges[what]
	return pick(d.seed, r[0], r[1], between(d.seed, r[0], r[1]))
}

// value: instructions behind which there is one value more.
func (d *drawn) value(levels int) {
	if levels <= 0 {
		word := pick(d.seed, api.InNum, api.InStr, api.InVar, api.InStepVar, api.InAsort)
		d.op(word, d.drawField(shapes[word].a), d.drawField(shapes[word].b))
		return
	}
	word := between(d.seed, 1, 33)
	s := shapes[word]
	switch s.name {
	case "jump":
		d.branch(levels)
		return
	case "if", "ifnot":
		d.chain(word, levels)
		return
	case "pop":
		d.value(levels - 1)
		d.op(api.InPop, 0, 0)
		d.value(levels - 1)
		return
	case "key", "call":
		d.counted(word, levels)
		return
	}
	count := number(s.takes, api.Instr{})
	for range count {
		d.value(levels - between(d.seed, 1, 2))
	}
	d.op(word, d.drawField(s.a), d.drawField(s.b))
}

// counted: a key or a call, of a few values.
func (d *drawn) counted(word int, levels int) {
	function, count := 0, between(d.seed, 1, 5)
	if word == api.InCall {
		function = pick(d.seed, 1, 2, 3, 4, 6, 7, 8, 9, 12)
		count = min(max(count, called[function][0]), called[function][1])
	}
	for range count {
		d.value(levels - 2)
	}
	if word == api.InKey {
		d.op(word, count, 0)
	} else {
		d.op(word, function, count)
	}
}

// branch: one value or another one, now and then with what is not reached.
func (d *drawn) branch(levels int) {
	d.value(levels - 1)
	first := len(d.Ops)
	d.op(pick(d.seed, api.InIf, api.InIfNot), 0, 0)
	d.value(levels - 1)
	second := len(d.Ops)
	d.op(api.InJump, 0, 0)
	if between(d.seed, 0, 3) == 0 {
		d.op(pick(d.seed, api.InPop, api.InCat, api.InNeg, api.InAsort), 0, 0)
		d.op(api.InJump, len(d.Ops)+1, 0)
	}
	d.Ops[first].A = len(d.Ops)
	d.value(levels - 1)
	d.Ops[second].A = len(d.Ops)
}

// chain: several conditions that jump to one place.
func (d *drawn) chain(word int, levels int) {
	var places []int
	for range between(d.seed, 1, 3) {
		d.value(levels - 2)
		places = append(places, len(d.Ops))
		d.op(word, 0, 0)
	}
	for _, place := range places {
		d.Ops[place].A = len(d.Ops)
	}
	d.value(levels - 1)
}

// drawCode: a good code.
func drawCode(seed *uint64, levels int) api.Code {
	d := drawn{seed: seed}
	for range between(seed, 1, pick(seed, 1, 4, 200)) {
		d.Nums = append(d.Nums, pick(seed, 0, 1, api.One, api.NaN, 1<<64-1, random(seed)))
	}
	for range between(seed, 1, pick(seed, 1, 4, 200)) {
		d.Strs = append(d.Strs, drawText(seed))
	}
	d.value(levels)
	return d.Code
}

// drawText: a text, now and then long enough for a length of two or three digits.
func drawText(seed *uint64) string {
	text := make([]byte, pick(seed, 0, 1, 2, 3, 10, 127, 128, 129))
	if between(seed, 0, 199) == 0 {
		text = make([]byte, pick(seed, 16383, 16384))
	}
	for i := range text {
		text[i] = pick(seed, 0, '"', '\\', 'a', ' ', '~', 0x1f, 0x7f, 0x80, 0xff, byte(random(seed)))
	}
	return string(text)
}
