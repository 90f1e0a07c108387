package execution

import (
	"iter"
	"slices"
	"strconv"

	"confluent/api"
)

// reached returns an iterator over the states that runs of at most some number of actions leave in a valid state, each once, in the order in which they are found.
func reached(m api.Model, start []int, steps int) iter.Seq[[]int] {
	return func(yield func([]int) bool) {
		last := [][]int{slices.Clone(start)}
		found := map[string]bool{key(start): true}
		if !yield(last[0]) {
			return
		}
		for range steps {
			var next [][]int
			for after := range executed(m, last) {
				k := key(after)
				if found[k] {
					continue
				}
				if !yield(after) {
					return
				}
				found[k] = true
				next = append(next, after)
			}
			last = next
		}
	}
}

// executed returns an iterator over the states that actions leave in some states, state by state. A refused action leaves nothing new.
func executed(m api.Model, states [][]int) iter.Seq[[]int] {
	return func(yield func([]int) bool) {
		for _, values := range states {
			for _, a := range m.Actions {
				after, refusal := execute(m, a.Effect, values)
				if refusal.Kind == api.RefusalNone && !yield(after) {
					return
				}
			}
		}
	}
}

// key returns a text that is different for different states of a model.
func key(values []int) string {
	var text []byte
	for _, value := range values {
		text = append(strconv.AppendInt(text, int64(value), 10), ' ')
	}
	return string(text)
}
