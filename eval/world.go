package eval

import (
	"ashlar/api"
	"ashlar/term"
)

// place is a world in which names are looked up and terms have values.
type place struct{ api.World }

// Right tells whether a world is right (D1).
func Right(w api.World) bool {
	p := place{w}
	if p.Nodes < 1 || p.Nodes > api.MaxNodes || len(p.Names) > api.MaxNames {
		return false
	}
	for i, named := range p.Names {
		// A name that is there twice with one sort is found at the first place both times.
		if !term.Name(named.Name) || !p.holds(named.V) || p.find(named.Name, named.V.Sort) != i {
			return false
		}
	}
	return true
}

// Get is the first value of this name and sort (D1).
func Get(w api.World, name string, sort int) (api.Value, bool) {
	p := place{w}
	i := p.find(name, sort)
	if i < 0 {
		return api.Value{}, false
	}
	return copied(p.Names[i].V), true
}

// With is the world with this value for the name and the value's sort (D1).
func With(w api.World, name string, v api.Value) api.World {
	p := place{w}
	changed := api.World{Nodes: p.Nodes, Names: make([]api.Named, 0, len(p.Names)+1)}
	for _, named := range p.Names {
		changed.Names = append(changed.Names, api.Named{Name: named.Name, V: copied(named.V)})
	}
	given := api.Named{Name: name, V: copied(v)}
	if i := p.find(name, v.Sort); i >= 0 {
		changed.Names[i] = given
		return changed
	}
	changed.Names = append(changed.Names, given)
	return changed
}

// find is the first place of this name with a value of this sort, -1 if there is none.
func (p place) find(name string, sort int) int {
	for i, named := range p.Names {
		if named.V.Sort == sort && named.Name == name {
			return i
		}
	}
	return -1
}

// holds tells whether v is a value of its sort in a world of so many nodes, and nothing else beside that.
func (p place) holds(v api.Value) bool {
	switch v.Sort {
	case api.Int:
		return !v.B && len(v.S) == 0
	case api.Set:
		return v.N == 0 && !v.B && len(v.S) == p.Nodes
	case api.Node:
		return 0 <= v.N && v.N < int64(p.Nodes) && !v.B && len(v.S) == 0
	case api.Bool:
		return v.N == 0 && len(v.S) == 0
	}
	return false
}

// copied is v with a set in memory of its own, so that who owns v may write over it.
func copied(v api.Value) api.Value {
	v.S = append([]bool(nil), v.S...)
	return v
}
