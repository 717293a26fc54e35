package subst

import (
	"iter"
	"strconv"

	"ashlar/api"
	"ashlar/term"
)

const (
	// beginning is how many bytes of a name are left in a new one, such that `_` and two digits still fit.
	beginning = 13
	// numbered is how many new names there are beside a name.
	numbered = 100
	// plain stands for what is no name.
	plain = "x"
)

// Free tells whether a right term has this name, of whatever sort (E2).
func Free(t api.Term, name string) bool {
	for _, found := range term.Names(t) {
		if found.Name == name {
			return true
		}
	}
	return false
}

// Fresh is the first of a name and the numbered ones made of it that is in none of l, else the last (E2).
func Fresh(l []api.Term, name string) string {
	if !term.Name(name) {
		name = plain
	}
	taken := namesOf(l)
	last := name
	for choice := range choices(name) {
		if taken[choice] == 0 {
			return choice
		}
		last = choice
	}
	return last
}

// namesOf counts the names in all of l, so that these are gone through once and not once a choice.
func namesOf(l []api.Term) map[string]int {
	taken := map[string]int{}
	for _, t := range l {
		for _, found := range term.Names(t) {
			taken[found.Name]++
		}
	}
	return taken
}

// choices is a name, and then its beginning with a number behind it.
func choices(name string) iter.Seq[string] {
	return func(yield func(string) bool) {
		if !yield(name) {
			return
		}
		head := name[:min(len(name), beginning)] + "_"
		for i := range numbered {
			if !yield(head + strconv.Itoa(i)) {
				return
			}
		}
	}
}
