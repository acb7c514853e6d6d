package quick_test

import (
	"testing"

	"abacus/api"
	"abacus/quick"
)

// words: numbers at the edges of limbs and mantissas.
func words() []uint64 {
	return []uint64{
		0, 1, 2, 3, 5, 7, 9, 10, 25, 99, 1<<31 - 1, 1 << 32, 1<<52 - 1, 1 << 52, 1<<52 + 1, 1<<53 - 1, 1 << 53, 1<<53 + 1, 1<<53 + 2, 1<<53 + 3,
		1<<54 - 1, 1<<54 + 1, 1<<62 + 1, 1<<63 - 1, 1 << 63, 1<<63 + 1, 1<<63 + 1024, 1<<63 + 1025, 999999999999999999, 1000000000000000000, 9999999999999999999, 10000000000000000000, top - 1, top,
	}
}

// P9.2: the document's examples of Small and Step.
func TestStepExamples(t *testing.T) {
	for _, c := range []struct {
		call func(uint64, int) (uint64, bool)
		name string
		w    uint64
		q    int
		want uint64
		sure bool
	}{
		{quick.Small, "Small", 1, 22, 0x4480f0cf064dd592, true}, {quick.Small, "Small", 1, 23, 0, false}, {quick.Small, "Small", 9007199254740992, 0, 0x4340000000000000, true}, {quick.Small, "Small", 9007199254740993, 0, 0, false},
		{quick.Small, "Small", 3, -1, 0x3fd3333333333333, true}, {quick.Small, "Small", 0, 5, 0, true}, {quick.Small, "Small", 0, 23, 0, false}, {quick.Small, "Small", 0, -23, 0, false}, {quick.Small, "Small", 0, -22, 0, true},
		{quick.Step, "Step", 0, 5000, 0, true}, {quick.Step, "Step", 1, 5000, 0, false}, {quick.Step, "Step", 1, 0, api.One, true}, {quick.Step, "Step", 3, -1, 0x3fd3333333333333, true}, {quick.Step, "Step", 1, -342, 0, true}, {quick.Step, "Step", 18446744073709551615, 308, api.Inf, true}, {quick.Step, "Step", 9007199254740993, 0, 0x4340000000000000, true}, {quick.Step, "Step", 90071992547409930, -1, 0, false},
	} {
		if d, sure := c.call(c.w, c.q); d != c.want || sure != c.sure {
			t.Errorf("%s(%d, %d) = %016x, %v", c.name, c.w, c.q, d, sure)
		}
	}
}

// holdSmall: Small against the exact value.
func holdSmall(t *testing.T, w uint64, q int) {
	t.Helper()
	want, told := uint64(0), w <= 1<<53 && q >= -22 && q <= 22
	if told {
		want = double(product(whole(w), power(10, q)))
	}
	if d, sure := quick.Small(w, q); d != want || sure != told {
		t.Fatalf("Small(%d, %d) = %016x, %v, want %016x, %v", w, q, d, sure, want, told)
	}
}

// P9.2: Small tells w * 10^q rounded, of every w to 2^53 and every q from -22 to 22, and nothing else.
func TestSmall(t *testing.T) {
	seed := uint64(92)
	for q := -24; q <= 24; q++ {
		for _, w := range words() {
			holdSmall(t, w, q)
		}
		for range 200 {
			holdSmall(t, random(&seed)>>between(&seed, 9, 63), q)
			holdSmall(t, 1<<53-random(&seed)%1000, q)
		}
	}
	for _, q := range far() {
		for _, w := range words() {
			holdSmall(t, w, q)
		}
	}
}

// holdStep: Step against the document's words; where it is sure, against the exact value; where it isn't, there must be a middle that excuses it.
func holdStep(t *testing.T, w uint64, q int) {
	t.Helper()
	want, told := step(w, q)
	d, sure := quick.Step(w, q)
	if d != want || sure != told {
		t.Fatalf("Step(%d, %d) = %016x, %v, want %016x, %v", w, q, d, sure, want, told)
	}
	if w == 0 || q < api.MinTable || q > api.MaxTable {
		return
	}
	if sure {
		if x := double(product(whole(w), power(10, q))); x != d {
			t.Fatalf("Step(%d, %d) = %016x, and the number rounds to %016x", w, q, d, x)
		}
		return
	}
	a, b := ends(w, q)
	if m := middle(double(a)); m.Cmp(a) >= 0 && m.Cmp(b) <= 0 {
		return
	}
	if x := double(a); x > 0 {
		if m := middle(x - 1); m.Cmp(a) >= 0 && m.Cmp(b) <= 0 {
			return
		}
	}
	t.Fatalf("Step(%d, %d) isn't sure, and no middle is near", w, q)
}

// P9.2, P9.4: Step at the edges of words, for every row.
func TestStepRows(t *testing.T) {
	for q := api.MinTable - 2; q <= api.MaxTable+2; q++ {
		for _, w := range words() {
			holdStep(t, w, q)
		}
	}
}

// P9.2: Step outside the table: a zero, and nothing else.
func TestStepOutside(t *testing.T) {
	for _, q := range far() {
		for _, w := range words() {
			if d, sure := quick.Step(w, q); d != 0 || sure != (w == 0) {
				t.Errorf("Step(%d, %d) = %016x, %v", w, q, d, sure)
			}
		}
	}
}

// P9.2, P9.4: Step of words that are drawn.
func TestStepDrawn(t *testing.T) {
	seed := uint64(93)
	for range 20000 {
		holdStep(t, drawWord(&seed), between(&seed, api.MinTable, api.MaxTable))
		holdStep(t, drawWord(&seed), between(&seed, -30, 60))
	}
}

// P9.2, P9.4: Step of the words nearest to the middles between neighbouring doubles, those at both ends of the doubles among them.
func TestStepAroundMiddles(t *testing.T) {
	seed := uint64(94)
	list := []uint64{0, 1, 2, 3, 1<<52 - 1, 1 << 52, api.Most - 1, api.Most}
	for range 6000 {
		list = append(list, drawDouble(&seed))
	}
	for _, d := range list {
		m := middle(d)
		q := fitting(m)
		if q < api.MinTable || q > api.MaxTable {
			continue
		}
		x := product(m, power(10, -q))
		w := x.Num().Quo(x.Num(), x.Denom()).Uint64()
		for i := range uint64(5) {
			holdStep(t, w-2+i, q)
		}
	}
}

// P9.4, P9.2: a number that is a middle itself: sure from 0 on, since the rows are exact there, and not sure below.
func TestStepAtMiddles(t *testing.T) {
	seed := uint64(95)
	for range 3000 {
		m := 1<<53 + random(&seed)>>11 | 1
		ten, five := uint64(1), uint64(1)
		for k := 0; m <= top/ten && k <= 3; k++ {
			_, sure := quick.Step(m*ten, -k)
			if sure != (k == 0) {
				t.Fatalf("Step(%d, %d): %v", m*ten, -k, sure)
			}
			holdStep(t, m*ten, -k)
			ten *= 10
		}
		for k := 0; m <= top/five && k <= 4; k++ {
			_, sure := quick.Step(m*five, -k)
			if sure != (k == 0) {
				t.Fatalf("Step(%d, %d): %v", m*five, -k, sure)
			}
			holdStep(t, m*five, -k)
			five *= 5
		}
	}
	five := uint64(1)
	for k := 0; k <= 22; k++ {
		for i := range uint64(4) {
			holdStep(t, (1<<53/five|1)+2*i, k)
			holdStep(t, ((1<<53/five|1)+2*i)<<3, k)
		}
		five *= 5
	}
}

// P9.4: Step is sure of every word for the rows from 0 to 55.
func TestStepExactRows(t *testing.T) {
	seed := uint64(96)
	for q := 0; q <= 55; q++ {
		for range 100 {
			w := random(&seed) >> between(&seed, 0, 12)
			want := double(product(whole(w), power(10, q)))
			if d, sure := quick.Step(w, q); d != want || !sure {
				t.Fatalf("Step(%d, %d) = %016x, %v, want %016x", w, q, d, sure, want)
			}
		}
	}
}
