package model

import (
	"slices"

	"confluent/api"
)

func (x *examination) validHides() bool {
	if len(x.Hides) > api.MaxInvariants {
		return false
	}
	for _, h := range x.Hides {
		if !x.validHide(h) {
			return false
		}
	}
	return endsSomewhere(x.Hides)
}

func (x *examination) validHide(h api.Hide) bool {
	columns := x.columns(h.Table)
	return h.Table != h.To && 0 <= h.Column && h.Column < len(columns) && slices.Equal(x.columns(h.To), columns[h.Column:h.Column+1])
}

// columns returns the columns of the relation with an index; none if there is no relation with this index.
func (x *examination) columns(index int) []int {
	if index < 0 || index >= len(x.Tables) || x.Tables[index].Kind != api.TableRelation {
		return nil
	}
	return x.Tables[index].Columns
}

// endsSomewhere reports whether hides form no cycle. A hide that leads to a table without hides is on no cycle; without these, further ones are on none.
func endsSomewhere(hides []api.Hide) bool {
	for len(hides) > 0 {
		leads := map[int]bool{}
		for _, h := range hides {
			leads[h.Table] = true
		}
		left := slices.DeleteFunc(slices.Clone(hides), func(h api.Hide) bool { return !leads[h.To] })
		if len(left) == len(hides) {
			return false
		}
		hides = left
	}
	return true
}
