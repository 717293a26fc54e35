package term

import "ashlar/api"

// walk is how far one has gone through a term, or through two side by side.
//
// Parts may stand in memory that they share: a term of some lines of code can
// be of more parts than could ever be gone through one by one. Such memory is
// known again by where it stands. That never changes an answer, only how long
// it takes; and terms of at most MaxSize parts are small enough without it.
type walk struct {
	steps  int
	levels map[rows]int // the deepest level at which these were gone through
}

// rows is where the parts of one term, or of two, stand.
type rows struct {
	a, b *api.Term
	n    int
}

// before tells whether these parts have been gone through at this level or a deeper one, and keeps that they are now.
func (w *walk) before(a, b []api.Term, level int) bool {
	w.steps++
	if w.steps <= api.MaxSize || len(a) == 0 {
		return false
	}
	at := rows{a: &a[0], n: len(a)}
	if len(b) > 0 {
		at.b = &b[0]
	}
	if w.levels[at] >= level {
		return true
	}
	if w.levels == nil {
		w.levels = map[rows]int{}
	}
	w.levels[at] = level
	return false
}
