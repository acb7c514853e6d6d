package point_test

import (
	"strings"
	"sync"
	"testing"

	"abacus/api"
	"abacus/point"
)

// told: what some calls answer, refused ones among them.
func told() string {
	a, _ := point.Render(spec("%+030.10e"), tenth)
	b, _ := point.Render(spec("%5000f"), tenth)
	c, _ := point.Render(spec("%#-20.3G"), bits(99.96))
	d, _ := point.Render(spec("%.1000f"), api.Most)
	e, _, _ := point.Special(spec("%09d"), api.NaN|minus)
	f, _, _ := point.Special(spec("%09d"), api.One)
	return strings.Join([]string{a, b, c, d, e, f}, "|")
}

// P2: the same call answers the same, whatever was called ahead of it or beside it.
func TestNothingIsKept(t *testing.T) {
	first := told()
	var group sync.WaitGroup
	for range 8 {
		group.Go(func() {
			for range 100 {
				if again := told(); again != first {
					t.Errorf("%q, then %q", brief(first), brief(again))
				}
			}
		})
	}
	group.Wait()
}
