package den

import (
	"slices"

	"equerry/api"
	"equerry/pred"
	"equerry/tree"
)

const first = 0 // the node whose pattern is all of it

// search is for where the patterns of nodes end in a row. What takes longer than the window is part of nothing that doesn't, so it isn't followed any further.
type search struct {
	nodes []api.Node
	parts [][]int // of each node, at which nodes its parts begin
	row   []api.Logged
	overs []int            // of each place, the first one behind it that is out of the window from there
	ends  map[[2]int][]int // of a node, and a place from which its pattern happens: to which ones, rising
}

// searchOf is a search for a pattern that may be, in a row that may be.
func searchOf(p api.Pattern, l []api.Logged) *search {
	return &search{nodes: p.Nodes, parts: partsOf(p.Nodes), row: l, overs: oversOf(l, p.Window), ends: map[[2]int][]int{}}
}

// partsOf is of each node at which nodes its parts begin.
func partsOf(l []api.Node) [][]int {
	all := make([][]int, len(l))
	for n := range l {
		at := n + 1
		for _, part := range tree.Parts(l[n:]) {
			all[n] = append(all[n], at)
			at += len(part)
		}
	}
	return all
}

// oversOf is of each place the first one behind it that is out of a window from there.
func oversOf(l []api.Logged, window uint64) []int {
	all := make([]int, len(l))
	over := 0 // it never falls, as times don't
	for i, e := range l {
		for over < len(l) && l[over].At-e.At <= window {
			over++
		}
		all[i] = over
	}
	return all
}

// endsFrom is to which places the pattern of a node happens from i, rising.
func (s *search) endsFrom(n, i int) []int {
	key := [2]int{n, i}
	ends, known := s.ends[key]
	if !known {
		ends = s.look(n, i)
		s.ends[key] = ends
	}
	return ends
}

// look looks for the places to which the pattern of a node happens from i.
func (s *search) look(n, i int) []int {
	node, parts := s.nodes[n], s.parts[n]
	switch node.Kind {
	case api.Seq:
		return s.chain(node, parts, len(parts), i)
	case api.Alt:
		return s.either(parts, i)
	case api.Rep:
		return s.chain(node, slices.Repeat(parts, int(node.Hi)), int(node.Lo), i)
	}
	if pred.Holds(node.Pred, s.row[i].Event) {
		return []int{i}
	}
	return nil
}

// either is to which places one of some parts happens from i.
func (s *search) either(parts []int, i int) []int {
	var all [][]int
	for _, part := range parts {
		all = append(all, s.endsFrom(part, i))
	}
	return s.union(all, i)
}

// chain is to which places parts of a node happen from i, one behind the other: the first least of them, or more.
func (s *search) chain(node api.Node, parts []int, least, i int) []int {
	var all [][]int
	begins := []int{i}
	for k, part := range parts {
		var ends [][]int
		for _, begin := range begins {
			ends = append(ends, s.endsFrom(part, begin))
		}
		reached := s.union(ends, i)
		if k+1 >= least {
			all = append(all, reached)
		}
		begins = s.behind(node, reached, i)
	}
	return s.union(all, i)
}

// behind is where a node that begins at i may go on, if its part ahead ends at one of some places.
func (s *search) behind(node api.Node, ends []int, i int) []int {
	var begins []int
	open := false // whether no event since the last one of the ends is one that mustn't be
	for at := i; at < s.overs[i]; at++ {
		if open {
			begins = append(begins, at)
			open = !node.Guarded || !pred.Holds(node.Guard, s.row[at].Event)
		}
		if len(ends) > 0 && ends[0] == at {
			open, ends = true, ends[1:]
		}
	}
	return begins
}

// union is all places of some lists that are within the window from i, rising, each once.
func (s *search) union(lists [][]int, i int) []int {
	there := make([]bool, s.overs[i]-i)
	for _, place := range slices.Concat(lists...) {
		if place < s.overs[i] {
			there[place-i] = true
		}
	}
	var all []int
	for k, is := range there {
		if is {
			all = append(all, i+k)
		}
	}
	return all
}
