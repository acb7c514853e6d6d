package lower

import "abacus/api"

// mark is a place that comes later: what lets each jump that was written ahead of it lead there.
type mark []func(place int)

// jump writes a jump to a mark.
func (w *writer) jump(word int, to *mark) {
	at := len(w.code.Ops)
	w.put(api.Instr{Word: word})
	*to = append(*to, func(place int) { w.code.Ops[at].A = place })
}

// land lets a mark be the place of what is written next.
func (w *writer) land(here mark) {
	for _, patch := range here {
		patch(len(w.code.Ops))
	}
}

// either writes && or ||: if the first kid's truth lets it jump by this word, the value is already known.
func (w *writer) either(kids []int, word int, known uint64) {
	var told, end mark
	w.node(kids[0])
	w.jump(word, &told)
	w.node(kids[1])
	w.put(api.Instr{Word: api.InTruth})
	w.jump(api.InJump, &end)
	w.land(told)
	w.number(known)
	w.land(end)
}

// choice writes ?: over its kids.
func (w *writer) choice(kids []int) {
	var otherwise, end mark
	w.node(kids[0])
	w.jump(api.InIfNot, &otherwise)
	w.node(kids[1])
	w.jump(api.InJump, &end)
	w.land(otherwise)
	w.node(kids[2])
	w.land(end)
}
