package names

import (
	"maps"
	"slices"
)

// noOwner is the Owner of what is declared on the outermost level.
const noOwner = -1

// scope is the declarations that a name can stand for in a place.
type scope interface {
	owner() int
	find(name string) (int, bool)
	all() []int
}

// empty is the scope of a place in which no name stands for anything. Its value is the Owner of what is declared there.
type empty int

// nowhere is the empty scope of all places that are outside of those in which variables are visible.
const nowhere = empty(noOwner)

func (e empty) owner() int { return int(e) }

func (e empty) find(string) (int, bool) { return 0, false }

func (e empty) all() []int { return nil }

// level is a scope in which more can be declared than in the scope around it.
type level struct {
	scope
	own map[string]int
}

func within(around scope) level {
	return level{scope: around, own: map[string]int{}}
}

func (l level) find(name string) (int, bool) {
	if index, ok := l.own[name]; ok {
		return index, true
	}
	return l.scope.find(name)
}

// all returns the indices of the declarations in increasing order, as those of the scope around are made first.
func (l level) all() []int {
	return append(l.scope.all(), slices.Sorted(maps.Values(l.own))...)
}
