package model

import (
	"cmp"
	"slices"

	"confluent/api"
	"confluent/table"
)

func (x *examination) validOperations() bool {
	var names []string
	for _, o := range x.Operations {
		names = append(names, o.Name)
		if len(o.Sorts) > api.MaxParameters || slices.ContainsFunc(o.Sorts, x.noParameter) {
			return false
		}
	}
	return len(names) <= api.MaxOperations && differ(names)
}

// noParameter reports whether no parameter can have a sort.
func (x *examination) noParameter(sort int) bool {
	return sort != api.TypeInt && (sort < 0 || sort >= len(x.Sorts))
}

func (x *examination) validActions() bool {
	if len(x.Actions) > api.MaxActions {
		return false
	}
	for i, a := range x.Actions {
		if !x.validInstance(a) || i > 0 && !before(x.Actions[i-1], a) || !x.validEffect(a.Effect) {
			return false
		}
	}
	return true
}

// validInstance reports whether an action has arguments for an operation.
func (x *examination) validInstance(a api.Action) bool {
	if a.Operation < 0 || a.Operation >= len(x.Operations) {
		return false
	}
	sorts := x.Operations[a.Operation].Sorts
	if len(a.Arguments) != len(sorts) {
		return false
	}
	for i, sort := range sorts {
		if !x.validArgument(a.Arguments[i], sort) {
			return false
		}
	}
	return true
}

func (x *examination) validArgument(argument, sort int) bool {
	if sort == api.TypeInt {
		return within(argument, api.MaxNumber)
	}
	return 0 <= argument && argument < x.Sorts[sort]
}

// before reports whether an action stands in front of another one in the order of actions.
func before(a, b api.Action) bool {
	return cmp.Or(cmp.Compare(a.Operation, b.Operation), slices.Compare(a.Arguments, b.Arguments)) < 0
}

func (x *examination) validEffect(e api.Effect) bool {
	if len(e.Hold) > api.MaxHold || len(e.Updates) > api.MaxUpdates {
		return false
	}
	for _, r := range e.Hold {
		if !x.validRow(r) {
			return false
		}
	}
	return x.validDelta(e.Delta) && x.validUpdates(e.Updates)
}

func (x *examination) validDelta(delta []api.Change) bool {
	fits := ascent(len(x.strict))
	for _, c := range delta {
		if !fits(c.Cell) || c.Add == 0 || !within(c.Add, api.MaxBound) {
			return false
		}
	}
	return true
}

func (x *examination) validUpdates(updates []api.Update) bool {
	fits := ascent(len(x.merged))
	for _, u := range updates {
		if !fits(u.Cell) || !validUpdate(x.merged[u.Cell], u) {
			return false
		}
	}
	return true
}

// validUpdate reports whether a cell of a convergent table can have an update.
func validUpdate(t api.Table, u api.Update) bool {
	switch u.Kind {
	case api.UpdatePut, api.UpdateDrop:
		return table.Set(t) && u.Value == 0
	case api.UpdateAssign:
		return table.Register(t) && t.Range.Lo <= u.Value && u.Value <= t.Range.Hi
	}
	return false
}
