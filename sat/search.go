package sat

import (
	"math"

	"ashlar/api"
	"ashlar/weigh"
)

// search is how far one call has come. A variable's lists have a place 0 that says nothing,
// so that a variable is its own place.
type search struct {
	// watched is, by a literal's place, the clauses of which it is one of the first two: as long as neither of
	// these is false, nothing follows from a clause, so that it need not be looked at.
	watched [][][]int
	// is tells of each variable: true (1), not true (-1), or open (0).
	is []int8
	// last is what each variable was when it was not open, and what it is chosen to be.
	last []int8
	// under is how many choices there were when a variable was set.
	under []int
	// why is the clause from which a variable followed; none if it was chosen.
	why [][]int
	// trail is the literals that were made true, in order; those ahead of place done have been followed.
	trail []int
	done  int
	// choices is, of each choice, how long the trail was ahead of it.
	choices []int
	// weights are the variables', and by what they are bumped; of those that cannot be chosen
	// chances has no number, else the weight.
	weights, chances []float64
	by               float64
	// met is, of each variable, for which lemma it was met last.
	met    []int
	lemmas [][]int
}

// start is a search without clauses: none of its variables can be chosen, as nothing hangs on it.
func start(vars int) *search {
	n := vars + 1
	s := &search{
		watched: make([][][]int, 2*n),
		is:      make([]int8, n),
		last:    make([]int8, n),
		under:   make([]int, n),
		why:     make([][]int, n),
		weights: make([]float64, n),
		chances: make([]float64, n),
		by:      1,
		met:     make([]int, n),
	}
	for v := range s.chances {
		s.chances[v] = math.NaN()
	}
	return s
}

// load adds clauses; false if it is plain already that not all can be true.
func (s *search) load(clauses [][]int) bool {
	for _, clause := range clauses {
		once, choice := tidy(clause)
		if !choice {
			continue
		}
		for _, literal := range once {
			s.bump(variable(literal))
		}
		if !s.add(once) {
			return false
		}
	}
	return true
}

// add adds a clause that has each literal once; false if it cannot become true.
func (s *search) add(clause []int) bool {
	switch {
	case len(clause) > 1:
		s.watch(clause, 0)
		s.watch(clause, 1)
	case len(clause) == 0 || s.what(clause[0]) < 0:
		return false
	case s.what(clause[0]) == 0:
		s.set(clause[0], clause)
	}
	return true
}

// watch has a clause looked at when its literal at that place becomes false.
func (s *search) watch(clause []int, at int) {
	p := place(clause[at])
	s.watched[p] = append(s.watched[p], clause)
}

// bump lets a variable weigh more; it can be chosen if it is open.
func (s *search) bump(v int) {
	s.weights[v] = weigh.Bump(s.weights[v], s.by)
	if s.is[v] == 0 {
		s.chances[v] = s.weights[v]
	}
}

// look goes on choosing, and learning from what went wrong, till there is an answer.
func (s *search) look(fuel int) int {
	answer := api.Yes
going:
	for {
		for broken := s.follow(); broken != nil; broken = s.follow() {
			if len(s.choices) == 0 {
				answer = api.No
				break going
			}
			if len(s.lemmas) >= fuel {
				answer = api.Unknown
				break going
			}
			s.learn(broken)
		}
		if !s.choose() {
			break going
		}
	}
	return answer
}

// follow sets what follows at once; a clause of which all literals are false, or none if there is none.
func (s *search) follow() []int {
	for s.done < len(s.trail) {
		literal := s.trail[s.done]
		s.done++
		if broken := s.leave(-literal); broken != nil {
			return broken
		}
	}
	return nil
}

// leave has the clauses that watch a literal watch another one, as that one has become false. From those that cannot
// the other literal that they watch follows; a clause of which that is false, too, is told.
func (s *search) leave(literal int) []int {
	p := place(literal)
	all := s.watched[p]
	stay := all[:0]
	for i, clause := range all {
		if clause[0] == literal {
			clause[0], clause[1] = clause[1], clause[0]
		}
		if s.what(clause[0]) <= 0 && s.move(clause) {
			continue
		}
		stay = append(stay, clause)
		switch s.what(clause[0]) {
		case -1:
			s.watched[p] = append(stay, all[i+1:]...)
			return clause
		case 0:
			s.set(clause[0], clause)
		}
	}
	s.watched[p] = stay
	return nil
}

// move has a clause watch a literal that is not false in place of its second one; false if there is none.
func (s *search) move(clause []int) bool {
	for i := 2; i < len(clause); i++ {
		if s.what(clause[i]) >= 0 {
			clause[1], clause[i] = clause[i], clause[1]
			s.watch(clause, 1)
			return true
		}
	}
	return false
}

// set makes an open literal true, as it follows from a clause, or is chosen.
func (s *search) set(literal int, why []int) {
	v := variable(literal)
	s.is[v] = 1
	if literal < 0 {
		s.is[v] = -1
	}
	s.last[v] = s.is[v]
	s.under[v] = len(s.choices)
	s.why[v] = why
	s.chances[v] = math.NaN()
	s.trail = append(s.trail, literal)
}

// choose makes the heaviest variable what it was last, at first not true; false if none can be chosen.
func (s *search) choose() bool {
	v := weigh.Heavy(s.chances)
	if math.IsNaN(s.chances[v]) {
		return false
	}
	s.choices = append(s.choices, len(s.trail))
	if s.last[v] > 0 {
		s.set(v, nil)
	} else {
		s.set(-v, nil)
	}
	return true
}

// learn adds the lemma that a clause of false literals teaches, and takes back choices till it sets a literal.
func (s *search) learn(broken []int) {
	lemma := s.lemma(broken)
	s.lemmas = append(s.lemmas, lemma)
	s.fade()
	s.back(s.second(lemma))
	if len(lemma) > 1 {
		s.add(lemma)
	}
	s.set(lemma[0], lemma)
}

// lemma is what a clause of false literals becomes when those that followed from the last choice give way to what
// they followed from, till only one of that choice is left. It stands first. It has no literal that is false without
// choices. No clause like it can be there: that one's literal would have been set ahead of the last choice.
func (s *search) lemma(broken []int) []int {
	lemma := []int{0}
	left, at := 0, len(s.trail)
	for clause := broken; ; clause = s.why[variable(s.trail[at])] {
		for _, literal := range clause {
			switch {
			case !s.meet(literal):
			case s.under[variable(literal)] == len(s.choices):
				left++
			default:
				lemma = append(lemma, literal)
			}
		}
		at = s.lastMet(at)
		left--
		if left == 0 {
			lemma[0] = -s.trail[at]
			return lemma
		}
	}
}

// meet takes a literal into account for the next lemma; false if it was already, or is false without choices.
func (s *search) meet(literal int) bool {
	v, number := variable(literal), len(s.lemmas)+1
	if s.met[v] == number || s.under[v] == 0 {
		return false
	}
	s.met[v] = number
	s.bump(v)
	return true
}

// lastMet is where the last literal stands on the trail, ahead of a place, that was met for the next lemma.
func (s *search) lastMet(ahead int) int {
	at := ahead - 1
	for s.met[variable(s.trail[at])] <= len(s.lemmas) {
		at--
	}
	return at
}

// second brings the literal that was set last, but for the first one, to the second place;
// it tells under how many choices that was.
func (s *search) second(lemma []int) int {
	if len(lemma) == 1 {
		return 0
	}
	at := 1
	for i := range lemma[1:] {
		if s.under[variable(lemma[i+1])] > s.under[variable(lemma[at])] {
			at = i + 1
		}
	}
	lemma[1], lemma[at] = lemma[at], lemma[1]
	return s.under[variable(lemma[1])]
}

// back takes back all but so many choices, and what followed from them.
func (s *search) back(choices int) {
	length := s.choices[choices]
	for _, literal := range s.trail[length:] {
		v := variable(literal)
		s.is[v] = 0
		s.chances[v] = s.weights[v]
	}
	s.trail = s.trail[:length]
	s.done = length
	s.choices = s.choices[:choices]
}

// fade lets later bumps weigh more, and keeps all weights from becoming too large.
func (s *search) fade() {
	s.by = weigh.Decay(s.by)
	if s.by <= weigh.Limit {
		return
	}
	all, _ := weigh.Rescale(append(s.weights, s.by))
	end := len(s.weights)
	s.weights, s.by = all[:end:end], all[end]
	for v, chance := range s.chances {
		if !math.IsNaN(chance) {
			s.chances[v] = s.weights[v]
		}
	}
}

// what tells what a literal is: true (1), false (-1), or open (0).
func (s *search) what(literal int) int8 {
	if literal < 0 {
		return -s.is[-literal]
	}
	return s.is[literal]
}

// model is what the variables are; those that are open need not be true.
func (s *search) model() []bool {
	model := make([]bool, len(s.is))
	for v, is := range s.is {
		model[v] = is > 0
	}
	return model
}

// place is where a literal stands among those of all variables.
func place(literal int) int {
	if literal < 0 {
		return -2*literal + 1
	}
	return 2 * literal
}
