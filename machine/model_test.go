package machine_test

import (
	"math"
	"slices"
	"strconv"
	"strings"
	"testing"

	"abacus/api"
	"abacus/chars"
	"abacus/code"
	"abacus/gather"
	"abacus/record"
	"abacus/relate"
	"abacus/spell"
	"abacus/store"
	"abacus/value"
)

// model carries out a code as the chapter's table tells it, one word behind the other.
type model struct {
	c     api.Code
	s     *store.Store
	stack []api.Value
}

// run: the answer; the store is changed.
func (m *model) run() (want told) {
	defer func() {
		if given := recover(); given != nil {
			want = told{e: given.(api.Errno)}
		}
	}()
	for place := 0; place < len(m.c.Ops); want.steps++ {
		in := m.c.Ops[place]
		place++
		switch words[in.Word] {
		case "jump":
			place = in.A
		case "ifnot":
			if !value.Truth(m.pop()) {
				place = in.A
			}
		case "if":
			if value.Truth(m.pop()) {
				place = in.A
			}
		case "pop":
			m.pop()
		default:
			m.push(m.made(in))
		}
	}
	want.v = m.pop()
	return want
}

func (m *model) push(v api.Value) { m.stack = append(m.stack, v) }

func (m *model) pop() api.Value {
	v := m.stack[len(m.stack)-1]
	m.stack = m.stack[:len(m.stack)-1]
	return v
}

// last: so many values from the top, the deepest first.
func (m *model) last(count int) []api.Value {
	from := len(m.stack) - count
	list := slices.Clone(m.stack[from:])
	m.stack = m.stack[:from]
	return list
}

// must ends the run with an error.
func must(e api.Errno) {
	if e != api.OK {
		panic(e)
	}
}

// sure: a value without an error.
func sure[T any](v T, e api.Errno) T {
	must(e)
	return v
}

func (m *model) text(v api.Value) string {
	return sure(value.ToStr(v, sure(m.s.Setting(api.VarConvfmt))))
}

// texts: the texts of values, from the first to the last.
func (m *model) texts(vals []api.Value) (list []string) {
	for _, v := range vals {
		list = append(list, m.text(v))
	}
	return list
}

func truth(yes bool) api.Value {
	if yes {
		return num(1)
	}
	return num(0)
}

func count(n int) api.Value { return num(float64(n)) }

// float: the number of a value on the host.
func float(v api.Value) float64 { return math.Float64frombits(value.ToNum(v)) }

// made: what an instruction puts; its word is none of those that put nothing.
func (m *model) made(in api.Instr) api.Value {
	switch words[in.Word] {
	case "num":
		return pattern(m.c.Nums[in.A])
	case "str":
		return str(m.c.Strs[in.A])
	case "key":
		list := m.texts(m.last(in.A))
		if len(list) == 1 {
			return str(list[0])
		}
		return str(sure(chars.Join(list, sure(m.s.Setting(api.VarSubsep)))))
	case "in":
		return truth(sure(m.s.Has(in.A, m.text(m.pop()))))
	case "neg":
		return pattern(value.ToNum(m.pop()) ^ api.Sign)
	case "pos":
		return pattern(value.ToNum(m.pop()))
	case "not":
		return truth(!value.Truth(m.pop()))
	case "truth":
		return truth(value.Truth(m.pop()))
	case "bin":
		w, v := m.pop(), m.pop()
		return sure(figured(in.A, float(v), float(w)))
	case "cat":
		return str(sure(chars.Cat(m.texts(m.last(2))...)))
	case "rel":
		w, v := m.pop(), m.pop()
		return truth(sure(relate.Holds(in.A, v, w, sure(m.s.Setting(api.VarConvfmt)))))
	case "call":
		return m.call(in.A, m.last(in.B))
	case "split":
		list := m.texts(m.last(2))
		return m.fill(in.A, record.Fields(list[0], list[1]), value.Input)
	case "asort":
		return m.sort(in.A)
	}
	return m.aimed(in)
}

// targets: what instructions of these words' endings read and write.
var targets = []string{"var", "field", "elem"}

// aimed: what an instruction with a target puts.
func (m *model) aimed(in api.Instr) api.Value {
	word := words[in.Word]
	kind := slices.IndexFunc(targets, func(end string) bool { return strings.HasSuffix(word, end) })
	switch doing := strings.TrimSuffix(word, targets[kind]); doing {
	case "":
		return m.place(kind, in.A).get()
	case "set":
		v := m.pop()
		m.place(kind, in.A).put(v)
		return v
	case "op":
		v := m.pop()
		p := m.place(kind, in.A)
		made := sure(figured(in.B, float(p.get()), float(v)))
		p.put(made)
		return made
	case "step":
		p := m.place(kind, in.A)
		old := pattern(value.ToNum(p.get()))
		made := num(float(old) + []float64{1, -1, 1, -1}[in.B-1])
		p.put(made)
		return []api.Value{made, old}[(in.B-1)/2]
	}
	return m.replaced(kind, in)
}

// replaced: what a sub or gsub puts. The values that say which target it is stand on top, but the texts below come first.
func (m *model) replaced(kind int, in api.Instr) api.Value {
	var which []api.Value
	if kind > 0 {
		which = m.last(1)
	}
	list := m.texts(m.last(2))
	m.stack = append(m.stack, which...)
	p := m.place(kind, in.A)
	most := map[int]int{api.FnSub: 1, api.FnGsub: -1}[in.B]
	made, times, e := chars.Replace(m.text(p.get()), list[0], list[1], most)
	must(e)
	if times > 0 {
		p.put(str(made))
	}
	return count(times)
}

// place: how a target is read and written.
type place struct {
	get func() api.Value
	put func(api.Value)
}

// place of a variable, a field or an element, whose number or key is on top of the stack.
func (m *model) place(kind int, a int) place {
	switch kind {
	case 0:
		return place{func() api.Value { return sure(m.s.Var(a)) }, func(v api.Value) { must(m.s.SetVar(a, v)) }}
	case 1:
		d := math.Trunc(float(m.pop()))
		if !(d >= 0 && d <= last) {
			panic(api.ErrField)
		}
		return place{func() api.Value { return sure(m.s.Field(int(d))) }, func(v api.Value) { must(m.s.SetField(int(d), v)) }}
	}
	key := m.text(m.pop())
	return place{func() api.Value { return sure(m.s.Elem(a, key)) }, func(v api.Value) { must(m.s.SetElem(a, key, v)) }}
}

// call: what a function makes of its arguments.
func (m *model) call(function int, args []api.Value) api.Value {
	var list []uint64
	for _, v := range args {
		list = append(list, value.ToNum(v))
	}
	switch function {
	case api.FnLength:
		return count(len(m.text(args[0])))
	case api.FnSubstr:
		if len(args) == 2 {
			return str(chars.From(m.text(args[0]), list[1]))
		}
		return str(chars.Substr(m.text(args[0]), list[1], list[2]))
	case api.FnIndex:
		both := m.texts(args)
		return count(strings.Index(both[0], both[1]) + 1)
	case api.FnSprintf:
		return str(sure(spell.Sprintf(sure(m.s.Setting(api.VarConvfmt)), m.text(args[0]), args[1:]...)))
	case api.FnToupper:
		return str(chars.Upper(m.text(args[0])))
	case api.FnTolower:
		return str(chars.Lower(m.text(args[0])))
	case api.FnInt:
		return num(math.Trunc(float(args[0])))
	case api.FnSqrt:
		return num(math.Sqrt(float(args[0])))
	}
	return pattern(gather.Sum(list))
}

// fill: an array holds what is made of these texts alone.
func (m *model) fill(array int, parts []string, of func(string) api.Value) api.Value {
	var vals []api.Value
	for _, part := range parts {
		vals = append(vals, of(part))
	}
	m.s.Wipe(array)
	for i, v := range vals {
		m.s.SetElem(array, strconv.Itoa(i+1), v)
	}
	return count(len(vals))
}

// sort: an array holds its values in order.
func (m *model) sort(array int) api.Value {
	keys, _ := m.s.Keys(array)
	of := func(key string) api.Value { return sure(m.s.Elem(array, key)) }
	slices.SortStableFunc(keys, func(p string, q string) int { return relate.Order(of(p), of(q)) })
	return m.fill(array, keys, of)
}

// drawText: a short text, which may look like a number, a format or a field's separator.
func drawText(seed *uint64) string {
	return pick(seed, "", "0", "1", "2", "10", " 3 ", "0.5", "-1", "1e3", "a", "b", "ab", "aab", "a b a", "-", ",", "1,2,a", " ", "x y z", "%s", "%d|%s", "%.2f", "%c%%", "5%", "\x00\xff", "nan", "3x")
}

// drawNumber: a number as it stands in scripts, now and then a strange one.
func drawNumber(seed *uint64) float64 {
	if between(seed, 0, 19) == 0 {
		return pick(seed, math.NaN(), math.Inf(1), math.Inf(-1), math.Copysign(0, -1), 1e300, -1e300, 1<<53, 1<<63, 5e-324, last, last+1, 1025)
	}
	return float64(between(seed, -4, 12)) / pick(seed, 1.0, 1, 1, 1, 2, 10)
}

// drawValue: a value of any kind.
func drawValue(seed *uint64) api.Value {
	text := drawText(seed)
	return pick(seed, none, num(drawNumber(seed)), num(drawNumber(seed)), str(text), value.Input(text), strnum(drawNumber(seed), text))
}

// drawState: a state with values for the variables that are drawn, two arrays and a record.
func drawState(seed *uint64) api.State {
	s := store.New()
	s.SetVar(api.VarConvfmt, pick(seed, str("%.6g"), str("%.6g"), str("%.6g"), str("%.2f"), str("<%.1e>"), str("%d"), none))
	s.SetVar(api.VarSubsep, pick(seed, str("\x1c"), str("\x1c"), str("-"), str(""), num(0.5)))
	s.SetVar(api.VarFs, pick(seed, str(" "), str(" "), str(","), str(""), num(1)))
	s.SetVar(api.VarOfs, pick(seed, str(" "), str(" "), str("-"), num(0.25)))
	for i := x; i <= z; i++ {
		s.SetVar(i, drawValue(seed))
	}
	for array := range 2 {
		for range between(seed, 0, 4) {
			s.SetElem(array, pick(seed, "", "1", "2", "0.5", "a", "1\x1c2"), drawValue(seed))
		}
	}
	s.SetField(0, str(pick(seed, "", "10 abc", "a,b 3", "  1 2  a ", "x")))
	if between(seed, 0, 2) == 0 {
		s.SetField(between(seed, 1, 4), drawValue(seed))
	}
	return s.Dump()
}

// drawn is a code that is being drawn: how high its stack is at its end, or -1 where no way comes; the jumps that lead nowhere yet, with the height to which each goes.
type drawn struct {
	api.Code
	seed   *uint64
	height int
	open   map[int][]int
}

func (d *drawn) op(word int, a int, b int) {
	d.Ops = append(d.Ops, api.Instr{Word: word, A: a, B: b})
	takes, puts, _ := code.Effect(d.Ops[len(d.Ops)-1])
	d.height += puts - takes
}

func (d *drawn) num(f float64) {
	d.Nums = append(d.Nums, bits(f))
	d.op(api.InNum, len(d.Nums)-1, 0)
}

func (d *drawn) str(text string) {
	d.Strs = append(d.Strs, text)
	d.op(api.InStr, len(d.Strs)-1, 0)
}

// jump of this word, to a place that comes later.
func (d *drawn) jump(word int) {
	d.op(word, len(d.Ops)+1, 0)
	d.open[d.height] = append(d.open[d.height], len(d.Ops)-1)
	if word == api.InJump {
		d.height = -1
	}
}

// land: here is the place of all the jumps that go to this height, or of the first of them.
func (d *drawn) land(height int, all bool) {
	list := d.open[height]
	if !all {
		list = list[:1]
	}
	for _, at := range list {
		d.Ops[at].A = len(d.Ops)
	}
	d.open[height] = slices.Clone(d.open[height][len(list):])
	d.height = height
}

// drawVariable: a variable of the script's own, or one that has a meaning.
func (d *drawn) drawVariable() int {
	return pick(d.seed, x, x, x, x, y, y, y, z, z, api.VarNf, api.VarNf, api.VarConvfmt, api.VarSubsep, api.VarFs, api.VarOfs, api.VarNr)
}

// drawOperator: an operator, now and then one that may be refused.
func (d *drawn) drawOperator() int {
	return pick(d.seed, api.OpAdd, api.OpAdd, api.OpSub, api.OpSub, api.OpMul, api.OpMul, api.OpDiv, api.OpMod, api.OpPow)
}

// need: the stack is this high at least.
func (d *drawn) need(height int) {
	for d.height < height {
		switch between(d.seed, 0, 3) {
		case 0:
			d.num(drawNumber(d.seed))
		case 1:
			d.str(drawText(d.seed))
		case 2:
			d.op(api.InVar, d.drawVariable(), 0)
		case 3:
			d.num(float64(between(d.seed, 0, 4)))
		}
	}
}

// one more instruction, with what it takes if it isn't there.
func (d *drawn) one() {
	word := between(d.seed, api.InNum, api.InAsort)
	in := api.Instr{Word: word}
	array := between(d.seed, 0, 1)
	switch name := words[word]; name {
	case "num", "str":
		d.need(d.height + 1)
		return
	case "jump", "if", "ifnot":
		if name != "jump" || between(d.seed, 0, 2) == 0 {
			d.need(1)
			d.jump(word)
		}
		return
	case "key":
		in.A = between(d.seed, 1, 3)
	case "elem", "setelem", "opelem", "stepelem", "subelem", "in", "split", "asort":
		in.A = array
	case "bin":
		in.A = d.drawOperator()
	case "rel":
		in.A = between(d.seed, api.LT, api.GE)
	case "call":
		in.A = pick(d.seed, api.FnLength, api.FnSubstr, api.FnIndex, api.FnSprintf, api.FnInt, api.FnSqrt, api.FnToupper, api.FnTolower, api.FnSum)
		in.B = map[int]int{api.FnSubstr: between(d.seed, 2, 3), api.FnIndex: 2, api.FnSprintf: between(d.seed, 1, 4), api.FnSum: between(d.seed, 1, 4)}[in.A]
		in.B = max(in.B, 1)
	}
	if strings.HasSuffix(words[word], "var") {
		in.A = d.drawVariable()
	}
	switch {
	case strings.HasPrefix(words[word], "op"):
		in.B = d.drawOperator()
	case strings.HasPrefix(words[word], "step"):
		in.B = between(d.seed, api.IncBefore, api.DecAfter)
	case strings.HasPrefix(words[word], "sub"):
		in.B = between(d.seed, api.FnSub, api.FnGsub)
	}
	takes, _, _ := code.Effect(in)
	d.need(takes)
	if words[word] == "call" && in.A == api.FnSprintf && between(d.seed, 0, 1) == 0 {
		d.str(pick(d.seed, "%s|%d", "%c%5.1f", "%s", "x", "%", "%y", "%s%s%d"))
		d.num(1)
		d.str("w")
		in.B = 3
	}
	d.op(in.Word, in.A, in.B)
}

// close: all ways lead to the end, with one value on the stack.
func (d *drawn) close() {
	even := func() {
		d.need(1)
		for d.height > 1 {
			in := pick(d.seed, api.Instr{Word: api.InPop}, api.Instr{Word: api.InCat}, api.Instr{Word: api.InKey, A: 2})
			d.op(in.Word, in.A, in.B)
		}
	}
	if d.height >= 0 {
		even()
	}
	for height := range 64 {
		if height == 1 || len(d.open[height]) == 0 {
			continue
		}
		if d.height >= 0 {
			d.jump(api.InJump)
		}
		d.land(height, true)
		even()
	}
	if d.height < 0 {
		d.land(1, true)
	}
	for _, at := range d.open[1] {
		d.Ops[at].A = len(d.Ops)
	}
}

// drawCode: a good code of some instructions.
func drawCode(seed *uint64, length int) api.Code {
	d := &drawn{seed: seed, open: map[int][]int{}}
	for range length {
		if d.height < 0 { // behind a jump: the next place is one that some jump leads to
			var heights []int
			for h := range 64 {
				if len(d.open[h]) > 0 {
					heights = append(heights, h)
				}
			}
			d.land(pick(seed, heights...), between(seed, 0, 1) == 0)
			continue
		}
		if len(d.open[d.height]) > 0 && between(seed, 0, 3) == 0 {
			d.land(d.height, between(seed, 0, 1) == 0)
		}
		d.one()
	}
	d.close()
	return d.Code
}

// P27.1, P27.2, P27.3: drawn codes over drawn states give what the model gives.
func TestDrawn(t *testing.T) {
	seed := uint64(27)
	ends, kinds, named, jumped := map[api.Errno]int{}, map[int]int{}, map[string]int{}, 0
	for range 60000 {
		c := drawCode(&seed, between(&seed, 1, pick(&seed, 3, 8, 30)))
		if _, at, e := code.Check(c); e != api.OK {
			t.Fatalf("%s was drawn: error %d at %d", brief(c), e, at)
		}
		st := drawState(&seed)
		s, _ := store.Load(st)
		after, _ := store.Load(st)
		m := &model{c: c, s: after}
		want := m.run()
		hold(t, []any{c, st}, c, s, want, after)
		ends[want.e]++
		kinds[want.v.Kind]++
		if want.e == api.OK {
			for _, in := range c.Ops {
				named[words[in.Word]]++
			}
			if want.steps < len(c.Ops) {
				jumped++
			}
		}
	}
	for _, e := range []api.Errno{api.OK, api.ErrConv, api.ErrField, api.ErrDivide, api.ErrPower, api.ErrFew, api.ErrVerb, api.ErrEnds} {
		if ends[e] < 20 {
			t.Errorf("error %d came %d times", e, ends[e])
		}
	}
	for kind := api.KindNone; kind <= api.KindStrnum; kind++ {
		if kinds[kind] < 500 {
			t.Errorf("a value of kind %d came %d times", kind, kinds[kind])
		}
	}
	for _, name := range words[1:] {
		if named[name] < 500 {
			t.Errorf("%s stood in %d codes that had a value", name, named[name])
		}
	}
	if ends[api.OK] < 20000 || jumped < 5000 {
		t.Errorf("%d codes had a value, %d of them by jumps", ends[api.OK], jumped)
	}
}
