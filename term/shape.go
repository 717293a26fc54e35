package term

import "ashlar/api"

// shape is what a term of one operation must be made of.
type shape struct {
	sort   int
	name   bool
	number bool
	many   bool   // any number of parts, all of the sort parts[0]
	count  int    // how many parts, if not many
	parts  [2]int // their sorts
}

// shapes is the shape of each operation, by its Op; no operation is 0.
var shapes = [api.SameNode + 1]shape{
	api.Num:      {sort: api.Int, number: true},
	api.IntVar:   {sort: api.Int, name: true},
	api.Card:     {sort: api.Int, count: 1, parts: [2]int{api.Set}},
	api.Add:      {sort: api.Int, count: 2, parts: [2]int{api.Int, api.Int}},
	api.Sub:      {sort: api.Int, count: 2, parts: [2]int{api.Int, api.Int}},
	api.Mul:      {sort: api.Int, number: true, count: 1, parts: [2]int{api.Int}},
	api.SetVar:   {sort: api.Set, name: true},
	api.Empty:    {sort: api.Set},
	api.All:      {sort: api.Set},
	api.One:      {sort: api.Set, count: 1, parts: [2]int{api.Node}},
	api.Union:    {sort: api.Set, count: 2, parts: [2]int{api.Set, api.Set}},
	api.Inter:    {sort: api.Set, count: 2, parts: [2]int{api.Set, api.Set}},
	api.Minus:    {sort: api.Set, count: 2, parts: [2]int{api.Set, api.Set}},
	api.NodeVar:  {sort: api.Node, name: true},
	api.BoolVar:  {sort: api.Bool, name: true},
	api.True:     {sort: api.Bool},
	api.False:    {sort: api.Bool},
	api.Not:      {sort: api.Bool, count: 1, parts: [2]int{api.Bool}},
	api.And:      {sort: api.Bool, many: true, parts: [2]int{api.Bool}},
	api.Or:       {sort: api.Bool, many: true, parts: [2]int{api.Bool}},
	api.Imp:      {sort: api.Bool, count: 2, parts: [2]int{api.Bool, api.Bool}},
	api.Le:       {sort: api.Bool, count: 2, parts: [2]int{api.Int, api.Int}},
	api.Lt:       {sort: api.Bool, count: 2, parts: [2]int{api.Int, api.Int}},
	api.Eq:       {sort: api.Bool, count: 2, parts: [2]int{api.Int, api.Int}},
	api.In:       {sort: api.Bool, count: 2, parts: [2]int{api.Node, api.Set}},
	api.Subset:   {sort: api.Bool, count: 2, parts: [2]int{api.Set, api.Set}},
	api.SameSet:  {sort: api.Bool, count: 2, parts: [2]int{api.Set, api.Set}},
	api.SameNode: {sort: api.Bool, count: 2, parts: [2]int{api.Node, api.Node}},
}

// sortWithin is the sort of a term that is within the limits, 0 if it is not right.
func sortWithin(t api.Term) int {
	if t.Op < api.Num || t.Op > api.SameNode {
		return 0
	}
	s := shapes[t.Op]
	if !s.named(t.Name) || !s.number && t.N != 0 || !s.holds(t.A) {
		return 0
	}
	return s.sort
}

func (s shape) named(name string) bool {
	if s.name {
		return Name(name)
	}
	return name == ""
}

// holds tells whether these are the parts that the shape asks for, each of them right.
func (s shape) holds(parts []api.Term) bool {
	if !s.many && len(parts) != s.count {
		return false
	}
	for i, part := range parts {
		want := s.parts[0]
		if !s.many {
			want = s.parts[i]
		}
		if sortWithin(part) != want {
			return false
		}
	}
	return true
}
