package relate_test

import (
	"testing"

	"abacus/api"
	"abacus/relate"
)

// line: a queue with what must be in it, as a list that is searched from its beginning to its end.
type line struct {
	queue  *relate.Queue
	values []api.Value
	number []int
	pushed int
}

// newLine: an empty queue, and nothing that must be in it.
func newLine() *line { return &line{queue: relate.NewQueue()} }

// first: the place in the list of what must come out.
func (l *line) first() int {
	best := 0
	for i, v := range l.values {
		if c := inOrder(v, l.values[best]); c < 0 || c == 0 && l.number[i] < l.number[best] {
			best = i
		}
	}
	return best
}

// push: a value put in; its number must be the count of those before it.
func (l *line) push(t *testing.T, v api.Value) {
	t.Helper()
	if n := l.queue.Push(v); n != l.pushed {
		t.Fatalf("Push(%s) = %d; want %d", show(v), n, l.pushed)
	}
	l.values, l.number = append(l.values, v), append(l.number, l.pushed)
	l.pushed++
	l.look(t)
}

// look: Len and Peek must answer what is in and what comes out next.
func (l *line) look(t *testing.T) {
	t.Helper()
	if n := l.queue.Len(); n != len(l.values) {
		t.Fatalf("Len = %d; want %d", n, len(l.values))
	}
	v, n, ok := l.queue.Peek()
	l.hold(t, "Peek", v, n, ok)
}

// pop: what is taken out must be the first.
func (l *line) pop(t *testing.T) {
	t.Helper()
	v, n, ok := l.queue.Pop()
	l.hold(t, "Pop", v, n, ok)
	if ok {
		i, last := l.first(), len(l.values)-1
		l.values[i], l.number[i] = l.values[last], l.number[last]
		l.values, l.number = l.values[:last], l.number[:last]
	}
	l.look(t)
}

// hold: an answer must be the first in plain form, with its number; zeros and false if nothing is in.
func (l *line) hold(t *testing.T, what string, v api.Value, n int, ok bool) {
	t.Helper()
	want, number, some := api.Value{}, 0, len(l.values) > 0
	if some {
		want, number = plain(l.values[l.first()]), l.number[l.first()]
	}
	if v != want || n != number || ok != some {
		t.Fatalf("%s = %s, %d, %v; want %s, %d, %v", what, show(v), n, ok, show(want), number, some)
	}
}

// P18.4: the document's example, step by step.
func TestQueueExample(t *testing.T) {
	q := relate.NewQueue()
	if q == nil || q.Len() != 0 {
		t.Fatal("a new queue isn't empty")
	}
	push := func(x float64, number int) {
		t.Helper()
		if n := q.Push(num(x)); n != number {
			t.Errorf("Push(%v) = %d; want %d", x, n, number)
		}
	}
	out := func(call func() (api.Value, int, bool), x float64, number int) {
		t.Helper()
		if v, n, ok := call(); v != plain(num(x)) || n != number || !ok {
			t.Errorf("%s, %d, %v; want %v, %d", show(v), n, ok, x, number)
		}
	}
	push(2, 0)
	push(1, 1)
	push(2, 2)
	out(q.Pop, 1, 1)
	push(0, 3)
	out(q.Peek, 0, 3)
	out(q.Pop, 0, 3)
	out(q.Pop, 2, 0)
	out(q.Pop, 2, 2)
	if v, n, ok := q.Pop(); v != (api.Value{}) || n != 0 || ok {
		t.Errorf("an empty queue: %s, %d, %v", show(v), n, ok)
	}
	push(7, 4)
	if q.Len() != 1 {
		t.Errorf("Len = %d; want 1", q.Len())
	}
}

// P18.4: drawn rows of calls, with more coming in than going out and the other way round, and empty in between.
func TestQueueDrawn(t *testing.T) {
	seed := uint64(184)
	for range 300 {
		l := newLine()
		l.look(t)
		for range between(&seed, 1, 6) {
			share := between(&seed, 0, 10)
			for range between(&seed, 1, 60) {
				if between(&seed, 1, 10) <= share {
					l.push(t, draw(&seed))
				} else {
					l.pop(t)
				}
			}
		}
		for l.queue.Len() > 0 {
			l.pop(t)
		}
		l.pop(t)
		l.push(t, draw(&seed))
	}
}

// P18.4: every row of seven calls out of four: two values at one place, one ahead of them, one taken out.
func TestQueueAllRows(t *testing.T) {
	list := []api.Value{num(1), strnum(1, "1.0"), num(0)}
	for code := range 1 << 14 {
		l := newLine()
		for range 7 {
			if code&3 < 3 {
				l.push(t, list[code&3])
			} else {
				l.pop(t)
			}
			code >>= 2
		}
	}
}

// P18.4: what is in comes out in Sort's order of what was pushed, every sample and many drawn ones.
func TestQueueSorts(t *testing.T) {
	seed := uint64(1842)
	for _, vs := range [][]api.Value{samples(), drawList(&seed, 1), drawList(&seed, 2), drawList(&seed, 3), drawList(&seed, 1000), drawList(&seed, 100000)} {
		q := relate.NewQueue()
		for range 5 { // so that numbers are no places
			q.Push(str("ahead"))
		}
		for q.Len() > 0 {
			q.Pop()
		}
		for _, v := range vs {
			q.Push(v)
		}
		for _, place := range relate.Sort(vs) {
			if v, n, ok := q.Pop(); v != plain(vs[place]) || n != 5+place || !ok {
				t.Fatalf("Pop = %s, %d, %v; want %s, %d", show(v), n, ok, show(plain(vs[place])), 5+place)
			}
		}
		if _, _, ok := q.Pop(); ok || q.Len() != 0 {
			t.Fatal("a queue holds more than was pushed")
		}
	}
}

// P18.4: values come out in plain form.
func TestQueuePlain(t *testing.T) {
	for _, v := range samples() {
		l := newLine()
		l.push(t, v)
		l.pop(t)
	}
}

// P18.4: two queues know nothing of one another.
func TestQueuesApart(t *testing.T) {
	seed := uint64(1843)
	a, b := newLine(), newLine()
	for range 2000 {
		l := pick(&seed, a, b)
		if random(&seed)%5 < 3 {
			l.push(t, draw(&seed))
		} else {
			l.pop(t)
		}
		a.look(t)
		b.look(t)
	}
}

// P2: a queue that is nil does nothing and answers zeros and false, and so does one that is written by hand.
func TestQueueNil(t *testing.T) {
	for _, q := range []*relate.Queue{nil, {}} {
		for range 3 {
			if n := q.Push(num(1)); n != 0 {
				t.Errorf("Push = %d", n)
			}
			if n := q.Len(); n != 0 {
				t.Errorf("Len = %d", n)
			}
			for _, call := range []func() (api.Value, int, bool){q.Pop, q.Peek} {
				if v, n, ok := call(); v != (api.Value{}) || n != 0 || ok {
					t.Errorf("%s, %d, %v", show(v), n, ok)
				}
			}
		}
	}
}
