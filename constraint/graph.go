package constraint

import (
	"slices"

	"confluent/api"
)

// graph is a directed graph: its vertices are the numbers below size, and edges tells which edges from a to b are there, at a * size + b.
type graph struct {
	size  int
	edges []bool
}

// graphOf returns the graph of a ConstraintAcyclic in a list of values, and whether all of its cells are there.
func graphOf(c api.Constraint, state []int) (graph, bool) {
	cells := c.Size * c.Size
	if c.Size < 1 || c.Size > api.MaxElements || c.First < 0 || c.First > len(state)-cells {
		return graph{}, false
	}
	g := graph{size: c.Size}
	for _, value := range state[c.First : c.First+cells] {
		g.edges = append(g.edges, value >= 1)
	}
	return g, true
}

// cycle returns the shortest cycle that begins with its least element, and the lexicographically least one of these; nothing if there is none.
func (g graph) cycle() []int {
	for length := 1; length <= g.size; length++ {
		for start := range g.size {
			if cycle := g.close([]int{start}, length); cycle != nil {
				return cycle
			}
		}
	}
	return nil
}

// close returns the least cycle of a length that begins with a path, and has no element that is less than the first one.
func (g graph) close(path []int, length int) []int {
	start, end := path[0], path[len(path)-1]
	if len(path) == length {
		if g.edges[end*g.size+start] {
			return path
		}
		return nil
	}
	for next := start + 1; next < g.size; next++ {
		if !g.edges[end*g.size+next] || slices.Contains(path, next) {
			continue
		}
		if cycle := g.close(append(slices.Clone(path), next), length); cycle != nil {
			return cycle
		}
	}
	return nil
}
