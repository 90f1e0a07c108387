package printer

import (
	"strings"

	"confluent/api"
)

// way writes the nodes of a kind.
type way func(w *writer, n api.Node)

// writer writes trees that have their shapes.
type writer struct {
	text  strings.Builder
	ways  map[int]way
	depth int // the blocks around the line that is written
}

func newWriter() *writer {
	return &writer{ways: map[int]way{
		api.NodeName:       (*writer).word,
		api.NodeNumber:     (*writer).word,
		api.NodeInteger:    (*writer).word,
		api.NodeWord:       (*writer).word,
		api.NodeUnary:      (*writer).unary,
		api.NodeBinary:     (*writer).binary,
		api.NodeProgram:    (*writer).program,
		api.NodeSort:       (*writer).sort,
		api.NodeRelation:   (*writer).relation,
		api.NodeCounter:    (*writer).counter,
		api.NodeSet:        (*writer).set,
		api.NodeRegister:   (*writer).register,
		api.NodeInvariant:  (*writer).invariant,
		api.NodeOperation:  (*writer).operation,
		api.NodeKey:        (*writer).key,
		api.NodeReference:  (*writer).reference,
		api.NodeCount:      (*writer).count,
		api.NodeAcyclic:    (*writer).acyclic,
		api.NodeLinear:     (*writer).linear,
		api.NodeColumns:    (*writer).list,
		api.NodeNames:      (*writer).list,
		api.NodeParameters: (*writer).list,
		api.NodeColumn:     (*writer).column,
		api.NodeParameter:  (*writer).parameter,
		api.NodeRange:      (*writer).values,
		api.NodeBound:      (*writer).bound,
		api.NodeTotal:      (*writer).total,
		api.NodeTerm:       (*writer).term,
		api.NodeCell:       (*writer).cell,
		api.NodeBlock:      (*writer).block,
		api.NodeRequire:    (*writer).require,
		api.NodeHold:       (*writer).hold,
		api.NodeInsert:     (*writer).insert,
		api.NodeDelete:     (*writer).remove,
		api.NodeAdd:        (*writer).add,
		api.NodePut:        (*writer).put,
		api.NodeDrop:       (*writer).drop,
		api.NodeAssign:     (*writer).assign,
		api.NodeFor:        (*writer).loop,
	}}
}

// full reports whether the text is larger than any that is returned. A writer that is full writes nothing more,
// so that a tree of many levels does not make a text that grows with the square of them.
func (w *writer) full() bool { return w.text.Len() > api.MaxSource }

// write writes strings and nodes one behind the other.
func (w *writer) write(parts ...any) {
	for _, part := range parts {
		if w.full() {
			return
		}
		switch part := part.(type) {
		case string:
			w.text.WriteString(part)
		case api.Node:
			w.ways[part.Kind](w, part)
		}
	}
}

// optional writes a node and what stands around it, unless it is missing.
func (w *writer) optional(before string, n api.Node, behind string) {
	if n.Kind != api.NodeNone {
		w.write(before, n, behind)
	}
}

func (w *writer) word(n api.Node) { w.write(n.Text) }

func (w *writer) unary(n api.Node) {
	w.write(n.Text)
	if n.Text == "not" {
		w.write(" ")
	}
	w.operand(n.Kids[0], Level(n))
}

func (w *writer) binary(n api.Node) {
	level := Level(n)
	first, second := level, level+1
	if level == levelComparison {
		first = levelSum
	}
	w.operand(n.Kids[0], first)
	w.write(" ", n.Text, " ")
	w.operand(n.Kids[1], second)
}

// operand writes an operand that stands in parentheses if it has not the level that is needed.
func (w *writer) operand(n api.Node, needed int) {
	if Level(n) < needed {
		w.write("(", n, ")")
	} else {
		w.write(n)
	}
}
