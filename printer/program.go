package printer

import (
	"strings"

	"confluent/api"
)

func (w *writer) program(n api.Node) {
	for _, kid := range n.Kids {
		w.write(kid, "\n")
	}
}

func (w *writer) sort(n api.Node) {
	w.write("sort ", n.Text, " ", n.Kids[0], ";")
}

func (w *writer) relation(n api.Node) {
	w.write("relation ", n.Text, n.Kids[0], ";")
}

func (w *writer) counter(n api.Node) {
	w.write("counter ", n.Text, n.Kids[0], " in ", n.Kids[1], ";")
}

func (w *writer) set(n api.Node) {
	w.write("set ", n.Text, n.Kids[0], " ", n.Kids[1], ";")
}

func (w *writer) register(n api.Node) {
	w.write("register ", n.Text, n.Kids[0], " in ", n.Kids[1], " ", n.Kids[2], ";")
}

func (w *writer) invariant(n api.Node) {
	w.write("invariant ", n.Text, ": ", n.Kids[0], ";")
}

func (w *writer) operation(n api.Node) {
	w.write("operation ", n.Text, n.Kids[0])
	w.optional(" ", n.Kids[1], "")
	w.write(" ", n.Kids[2])
}

func (w *writer) key(n api.Node) {
	w.write("key ", n.Text, n.Kids[0])
}

func (w *writer) reference(n api.Node) {
	w.write("reference ", n.Text, "(", n.Kids[0], ") to ", n.Kids[1])
	w.optional(" ", n.Kids[2], "")
}

func (w *writer) count(n api.Node) {
	w.write("count ", n.Text, n.Kids[0], " ", n.Kids[1])
}

func (w *writer) acyclic(n api.Node) {
	w.write("acyclic ", n.Text)
}

func (w *writer) linear(n api.Node) {
	w.write("all", n.Kids[0], " ", n.Kids[1], " ", n.Kids[2])
}

// list writes the Kids of a node in parentheses, with commas between them.
func (w *writer) list(n api.Node) {
	w.write("(")
	for i, kid := range n.Kids {
		if i > 0 {
			w.write(", ")
		}
		w.write(kid)
	}
	w.write(")")
}

func (w *writer) column(n api.Node) {
	w.write(n.Text, ": ", n.Kids[0])
}

func (w *writer) parameter(n api.Node) {
	between := ": "
	if n.Kids[0].Kind == api.NodeRange {
		between = " in "
	}
	w.write(n.Text, between, n.Kids[0])
}

func (w *writer) values(n api.Node) {
	w.write(n.Kids[0], "..", n.Kids[1])
}

func (w *writer) bound(n api.Node) {
	w.write(n.Text, " ", n.Kids[0])
}

// total writes the signs of its terms, as that of the first one is written in another way.
func (w *writer) total(n api.Node) {
	for i, term := range n.Kids {
		switch {
		case i > 0:
			w.write(" ", term.Text, " ")
		case term.Text == "-":
			w.write("-")
		}
		w.write(term)
	}
}

// term writes a term without its sign.
func (w *writer) term(n api.Node) {
	w.optional("", n.Kids[0], " * ")
	w.optional("sum", n.Kids[1], " ")
	w.write(n.Kids[2])
}

func (w *writer) cell(n api.Node) {
	w.write(n.Text)
	w.list(n)
}

// block writes the statements in lines of their own, if there are any.
func (w *writer) block(n api.Node) {
	w.write("{")
	if len(n.Kids) > 0 {
		w.depth++
		for _, statement := range n.Kids {
			w.line()
			w.write(statement)
		}
		w.depth--
		w.line()
	}
	w.write("}")
}

// line begins a line with the blanks of its depth.
func (w *writer) line() {
	w.write("\n", strings.Repeat("  ", w.depth))
}

func (w *writer) require(n api.Node) {
	w.write("require ", n.Kids[0], ";")
}

func (w *writer) hold(n api.Node) {
	w.write("hold ", n.Kids[0], " ", n.Kids[1], ";")
}

func (w *writer) insert(n api.Node) {
	w.write("insert ", n.Kids[0], ";")
}

func (w *writer) remove(n api.Node) {
	w.write("delete ", n.Kids[0], ";")
}

func (w *writer) add(n api.Node) {
	w.write("add ", n.Kids[0], " to ", n.Kids[1], ";")
}

func (w *writer) put(n api.Node) {
	w.write("put ", n.Kids[0], ";")
}

func (w *writer) drop(n api.Node) {
	w.write("drop ", n.Kids[0], ";")
}

func (w *writer) assign(n api.Node) {
	w.write("assign ", n.Kids[0], " = ", n.Kids[1], ";")
}

func (w *writer) loop(n api.Node) {
	w.write("for ", n.Kids[0])
	w.optional(" where ", n.Kids[1], "")
	w.write(" ", n.Kids[2])
}
