package render_test

import (
	"slices"
	"strings"
	"sync"
	"testing"
	"unsafe"

	"abacus/api"
	"abacus/render"
)

// shares: whether two texts lie in one memory, in part at least.
func shares(a string, b string) bool {
	if a == "" || b == "" {
		return false
	}
	p, q := uintptr(unsafe.Pointer(unsafe.StringData(a))), uintptr(unsafe.Pointer(unsafe.StringData(b)))
	return p < q+uintptr(len(b)) && q < p+uintptr(len(a))
}

// P16.4: what is answered is no piece of a text that was handed in.
func TestNewMemory(t *testing.T) {
	for _, given := range []string{"a", "text", strings.Repeat("long", 500)} {
		text := strings.Clone(given)
		for _, directive := range []string{"%s", "%c", "%.1s", "%3s", "%-9.4s"} {
			if got, _ := render.One(spec(directive), str(text)); shares(got, text) {
				t.Errorf("One by %s answers a piece of its text", directive)
			}
			if got, _ := render.Sprintf(directive, str(text)); shares(got, text) {
				t.Errorf("Sprintf of %s answers a piece of its text", directive)
			}
		}
		if got, _ := render.Sprintf(text); shares(got, text) {
			t.Error("Sprintf answers its own format")
		}
		if got, _ := render.Pieces([]api.Piece{{Text: text}}, nil); shares(got, text) {
			t.Error("Pieces answers its piece's text")
		}
	}
}

// P16.4: the lists that are handed in stay as they are, their spare room too, whether the call is refused or not.
func TestListsStay(t *testing.T) {
	seed := uint64(164)
	for range 5000 {
		pieces := make([]api.Piece, between(&seed, 0, 5), 8)
		for i := range pieces {
			pieces[i] = drawPiece(&seed)
		}
		pieces[:8][7] = api.Piece{Text: "spare"}
		args := append(drawArgs(&seed, pieces), str("spare"), num(1))
		beforePieces, beforeArgs := slices.Clone(pieces[:8]), slices.Clone(args)
		render.Pieces(pieces, args[:len(args)-2])
		render.Sprintf("%*.*d%s%c", args[:len(args)-2]...)
		if !slices.Equal(pieces[:8], beforePieces) || !slices.Equal(args, beforeArgs) {
			t.Fatalf("a list was changed: %v, %v", beforePieces, beforeArgs)
		}
	}
}

// P16.4: a list that is written over behind the call doesn't change the answer.
func TestListsAreNotKept(t *testing.T) {
	pieces := []api.Piece{{Text: "a"}, {Verb: 's'}, {Verb: 'd'}}
	args := []api.Arg{str("b"), num(3)}
	got, _ := render.Pieces(pieces, args)
	clear(pieces)
	clear(args)
	if got != "ab3" {
		t.Errorf("%q; want ab3", got)
	}
}

// P16.4: the same call answers the same, whatever was called ahead of it or beside it.
func TestNothingIsKept(t *testing.T) {
	want := answers()
	var group sync.WaitGroup
	for range 8 {
		group.Go(func() {
			for range 200 {
				if got := answers(); got != want {
					t.Errorf("%q, then %q", want, got)
				}
			}
		})
	}
	group.Wait()
}

// answers: what some calls answer, refused ones among them.
func answers() string {
	a, _ := render.Sprintf("%s|%*.*f|%c", str("x"), num(9), num(3), num(2.0625), num(66))
	b, e := render.Sprintf("%s|%d|%c", str("x"), num(1))
	c, f := render.Sprintf("%d%", num(1))
	d, _ := render.One(spec("%#-20X"), num(-2))
	g, h := render.Pieces([]api.Piece{{Verb: 'd'}, {}}, []api.Arg{num(1)})
	return strings.Join([]string{a, b, c, d, g, string(rune(e)), string(rune(f)), string(rune(h))}, "|")
}
