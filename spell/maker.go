package spell

import (
	"strings"

	"abacus/api"
)

// maker puts texts one behind the other, as long as there is room.
type maker struct{ out strings.Builder }

// add puts these texts behind what has been made; ErrLong, behind which nothing more is made.
func (m *maker) add(texts ...string) api.Errno {
	for _, text := range texts {
		if len(text) > api.MaxText-m.out.Len() {
			return api.ErrLong
		}
		m.out.WriteString(text)
	}
	return api.OK
}
