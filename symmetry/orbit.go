package symmetry

import (
	"slices"

	"confluent/api"
)

// arrival is the last step of a way: the question before it, and the swap.
type arrival struct {
	from api.Question
	swap api.Swap
}

// spread returns the orbit of a question, with the last step of the way to each of its questions. They are left in the order in which they are reached, each by the symmetries in order: what reaches a question first is a shortest way, and of these the first one.
func spread(start api.Question, all []symmetry) map[api.Question]arrival {
	arrivals := map[api.Question]arrival{start: {}}
	for queue := []api.Question{start}; len(queue) > 0; queue = queue[1:] {
		for i := range all {
			to, _ := exchanged(&all[i], queue[0])
			if _, known := arrivals[to]; !known {
				arrivals[to] = arrival{queue[0], all[i].swap}
				queue = append(queue, to)
			}
		}
	}
	return arrivals
}

// way returns the swaps that lead to a question from the one where a spread has started.
func way(arrivals map[api.Question]arrival, start, end api.Question) []api.Swap {
	var swaps []api.Swap
	for q := end; q != start; q = arrivals[q].from {
		swaps = append(swaps, arrivals[q].swap)
	}
	slices.Reverse(swaps)
	return swaps
}
