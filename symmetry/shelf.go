package symmetry

import (
	"strconv"

	"confluent/api"
)

// shelf is a list of texts. Equal ones are told apart by their ranks: how many of them stand before.
type shelf struct {
	places map[string][]int // the indices of each text
	ranks  []int
}

func (s *shelf) add(text string) {
	if s.places == nil {
		s.places = map[string][]int{}
	}
	index := len(s.ranks)
	s.ranks = append(s.ranks, len(s.places[text]))
	s.places[text] = append(s.places[text], index)
}

// find returns the index of a text with a rank, and whether there is one.
func (s *shelf) find(text string, rank int) (int, bool) {
	places := s.places[text]
	if rank >= len(places) {
		return 0, false
	}
	return places[rank], true
}

// catalogue contains the rows of a model: the constraints, and for each action its hold rows.
type catalogue struct {
	constraints shelf
	holds       []shelf
}

func catalogueOf(m api.Model) catalogue {
	c := catalogue{holds: make([]shelf, len(m.Actions))}
	for _, x := range m.Constraints {
		c.constraints.add(familyText(x.Family, x.Row))
	}
	for i, a := range m.Actions {
		for _, r := range a.Effect.Hold {
			c.holds[i].add(rowText(r))
		}
	}
	return c
}

// familyText returns a text that is different for different rows, and for those of different families.
func familyText(family int, r api.Row) string { return strconv.Itoa(family) + ":" + rowText(r) }

// rowText returns a text that is different for different rows.
func rowText(r api.Row) string {
	text := strconv.AppendInt(nil, int64(r.Bound), 10)
	for _, t := range r.Terms {
		text = strconv.AppendInt(append(text, ' '), int64(t.Cell), 10)
		text = strconv.AppendInt(append(text, '*'), int64(t.Factor), 10)
	}
	return string(text)
}
