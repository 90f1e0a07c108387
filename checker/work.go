package checker

import (
	"cmp"
	"slices"
	"strconv"

	"confluent/api"
	"confluent/lexer"
	"confluent/syntax"
	"confluent/table"
)

// spot is a node with its number and its Kids.
type spot struct {
	api.Node
	number int
	kids   []*spot
}

// mistake is a diagnostic for the node with a number.
type mistake struct {
	number     int
	diagnostic api.Diagnostic
}

// work is the state of the work on a tree whose names are resolved. The program is what is declared, also where this is not allowed.
type work struct {
	program    api.Program
	resolution api.Resolution
	spots      []*spot
	indices    map[int]int // of the declarations among those of their kind, by the numbers of their nodes
	wrong      []mistake
}

func newWork(n api.Node, resolution api.Resolution) *work {
	w := &work{resolution: resolution, indices: map[int]int{}}
	w.program.Tree, _ = syntax.Replace(n, nil, n)
	root := w.lay(n)
	for _, s := range root.kids {
		if s.Kind == api.NodeSort {
			w.indices[s.number] = len(w.program.Sorts)
			w.program.Sorts = append(w.program.Sorts, api.Sort{Name: s.Text, Size: number(s.kids[0])})
		}
	}
	for _, s := range root.kids {
		w.declare(s)
	}
	return w
}

// lay makes the spots of a tree.
func (w *work) lay(n api.Node) *spot {
	s := &spot{Node: n, number: len(w.spots)}
	w.spots = append(w.spots, s)
	for _, kid := range n.Kids {
		s.kids = append(s.kids, w.lay(kid))
	}
	return s
}

// declare adds a table, an invariant or an operation to the program.
func (w *work) declare(s *spot) {
	switch s.Kind {
	case api.NodeRelation, api.NodeCounter, api.NodeSet, api.NodeRegister:
		w.declareTable(s)
	case api.NodeInvariant:
		w.indices[s.number] = len(w.program.Invariants)
		w.program.Invariants = append(w.program.Invariants, api.Invariant{Name: s.Text, Node: s.number})
	case api.NodeOperation:
		p := api.Procedure{Name: s.Text, Ordered: s.kids[1].Kind == api.NodeWord, Node: s.number}
		for _, kid := range s.kids[0].kids {
			p.Parameters = append(p.Parameters, w.parameter(kid))
		}
		w.indices[s.number] = len(w.program.Procedures)
		w.program.Procedures = append(w.program.Procedures, p)
	}
}

func (w *work) declareTable(s *spot) {
	t := api.Table{Name: s.Text, Kind: tableKind(s), Columns: w.sorts(s.kids[0]), Range: api.Range{Hi: 1}}
	if len(s.kids) > 1 && s.kids[1].Kind == api.NodeRange {
		t.Range = interval(s.kids[1])
	}
	t.First = w.cells(len(w.program.Tables), table.Strict(t))
	w.indices[s.number] = len(w.program.Tables)
	w.program.Tables = append(w.program.Tables, t)
}

func tableKind(s *spot) int {
	switch word := s.kids[len(s.kids)-1].Text; {
	case s.Kind == api.NodeRelation:
		return api.TableRelation
	case s.Kind == api.NodeCounter:
		return api.TableCounter
	case word == "addwins":
		return api.TableAddWins
	case word == "removewins":
		return api.TableRemoveWins
	case word == "last":
		return api.TableLastWriter
	}
	return api.TableMultiValue
}

func (w *work) parameter(s *spot) api.Parameter {
	p := api.Parameter{Name: s.Text, Sort: w.sortNamed(s)}
	if p.Sort == api.TypeInt {
		p.Range = interval(s.kids[0])
	}
	return p
}

// sorts returns the sorts of the columns of a NodeColumns.
func (w *work) sorts(columns *spot) []int {
	var all []int
	for _, s := range columns.kids {
		all = append(all, w.sortNamed(s))
	}
	return all
}

// sortNamed returns the sort of what a NodeColumn or a NodeParameter declares: TypeInt for a parameter with a range.
func (w *work) sortNamed(s *spot) int {
	if s.kids[0].Kind == api.NodeRange {
		return api.TypeInt
	}
	return w.indices[w.declaration(s.kids[0])]
}

// sortOf returns the sort of the column or variable that a node uses.
func (w *work) sortOf(s *spot) int { return w.sortNamed(w.spots[w.declaration(s)]) }

// table returns the table that a node uses.
func (w *work) table(s *spot) api.Table { return w.program.Tables[w.indices[w.declaration(s)]] }

// declaration returns the number of the node that declares what a node uses.
func (w *work) declaration(s *spot) int {
	return w.resolution.Declarations[w.resolution.Uses[s.number]].Node
}

// report notes that something is wrong with a node.
func (w *work) report(s *spot, code int) {
	d := diagnostic(s.Node, code)
	if code == api.DiagKind || code == api.DiagDeclared {
		d.Text = s.Text
	}
	w.wrong = append(w.wrong, mistake{s.number, d})
}

// diagnostics returns what is wrong in the order of the nodes.
func (w *work) diagnostics() []api.Diagnostic {
	slices.SortStableFunc(w.wrong, func(a, b mistake) int { return cmp.Compare(a.number, b.number) })
	var all []api.Diagnostic
	for _, m := range w.wrong {
		all = append(all, m.diagnostic)
	}
	return all
}

// number returns the number that a NodeNumber stands for.
func number(s *spot) int {
	value, _ := lexer.Number(s.Text)
	return value
}

// interval returns the range that a NodeRange stands for.
func interval(s *spot) api.Range {
	lo, _ := strconv.Atoi(s.kids[0].Text)
	hi, _ := strconv.Atoi(s.kids[1].Text)
	return api.Range{Lo: lo, Hi: hi}
}
