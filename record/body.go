package record

import (
	"confluence/api"
	"confluence/code"
)

// body is what a record has beside its kind. What take takes need not be right.
type body interface {
	isRight() bool
	lay(w *code.Writer)
	take(r *code.Reader) body
}

// The bodies that there are; kinds that have the same fields share one.
type (
	lone      struct{ xid int } // RecBegin, RecRelease, RecBack, RecAbort
	part      struct{ xid, parent int }
	insertion struct {
		xid, table int
		row        api.Row
	}
	update struct {
		xid, table int
		from, to   api.Row
	}
	deletion struct {
		xid, table int
		row        api.Row
	}
	commit struct {
		xid    int
		name   string
		origin int
	}
	prepare struct {
		xid  int
		name string
	}
	shape struct { // RecCreate, RecWiden
		xid int
		tab api.Table
	}
	whole      struct{ xid, table int } // RecDrop, RecEmpty
	checkpoint struct {
		xid, table int // the next ones
		tabs       []api.Table
	}
)

// bodyOf is what a record has of the fields of its kind; nil, if that is none.
func bodyOf(r api.Rec) body {
	switch r.Kind {
	case api.RecBegin, api.RecRelease, api.RecBack, api.RecAbort:
		return lone{r.Xid}
	case api.RecPart:
		return part{r.Xid, r.Parent}
	case api.RecInsert:
		return insertion{r.Xid, r.Table, r.New}
	case api.RecUpdate:
		return update{r.Xid, r.Table, r.Old, r.New}
	case api.RecDelete:
		return deletion{r.Xid, r.Table, r.Old}
	case api.RecCommit:
		return commit{r.Xid, r.Name, r.Origin}
	case api.RecPrepare:
		return prepare{r.Xid, r.Name}
	case api.RecCreate, api.RecWiden:
		return shape{r.Xid, r.Tab}
	case api.RecDrop, api.RecEmpty:
		return whole{r.Xid, r.Table}
	case api.RecCheckpoint:
		return checkpoint{r.Xid, r.Table, r.Tabs}
	}
	return nil
}

// recordOf is the record that has this body, and nothing else.
func recordOf(kind int, b body) api.Rec {
	r := api.Rec{Kind: kind}
	switch b := b.(type) {
	case lone:
		r.Xid = b.xid
	case part:
		r.Xid, r.Parent = b.xid, b.parent
	case insertion:
		r.Xid, r.Table, r.New = b.xid, b.table, b.row
	case update:
		r.Xid, r.Table, r.Old, r.New = b.xid, b.table, b.from, b.to
	case deletion:
		r.Xid, r.Table, r.Old = b.xid, b.table, b.row
	case commit:
		r.Xid, r.Name, r.Origin = b.xid, b.name, b.origin
	case prepare:
		r.Xid, r.Name = b.xid, b.name
	case shape:
		r.Xid, r.Tab = b.xid, b.tab
	case whole:
		r.Xid, r.Table = b.xid, b.table
	case checkpoint:
		r.Xid, r.Table, r.Tabs = b.xid, b.table, b.tabs
	}
	return r
}

func (b lone) lay(w *code.Writer) { w.Var(b.xid) }

func (b lone) take(r *code.Reader) body { return lone{r.Var()} }

func (b part) lay(w *code.Writer) {
	w.Var(b.xid)
	w.Var(b.parent)
}

func (b part) take(r *code.Reader) body { return part{r.Var(), r.Var()} }

func (b insertion) lay(w *code.Writer) {
	w.Var(b.xid)
	w.Var(b.table)
	layRow(w, b.row)
}

func (b insertion) take(r *code.Reader) body { return insertion{r.Var(), r.Var(), takeRow(r)} }

func (b update) lay(w *code.Writer) {
	w.Var(b.xid)
	w.Var(b.table)
	layRow(w, b.from)
	layRow(w, b.to)
}

func (b update) take(r *code.Reader) body { return update{r.Var(), r.Var(), takeRow(r), takeRow(r)} }

func (b deletion) lay(w *code.Writer) {
	w.Var(b.xid)
	w.Var(b.table)
	layRow(w, b.row)
}

func (b deletion) take(r *code.Reader) body { return deletion{r.Var(), r.Var(), takeRow(r)} }

func (b commit) lay(w *code.Writer) {
	w.Var(b.xid)
	w.Text(b.name, api.MaxName)
	w.Var(b.origin)
}

func (b commit) take(r *code.Reader) body { return commit{r.Var(), r.Text(api.MaxName), r.Var()} }

func (b prepare) lay(w *code.Writer) {
	w.Var(b.xid)
	w.Text(b.name, api.MaxName)
}

func (b prepare) take(r *code.Reader) body { return prepare{r.Var(), r.Text(api.MaxName)} }

func (b shape) lay(w *code.Writer) {
	w.Var(b.xid)
	layTable(w, b.tab)
}

func (b shape) take(r *code.Reader) body { return shape{r.Var(), takeTable(r)} }

func (b whole) lay(w *code.Writer) {
	w.Var(b.xid)
	w.Var(b.table)
}

func (b whole) take(r *code.Reader) body { return whole{r.Var(), r.Var()} }

func (b checkpoint) lay(w *code.Writer) {
	w.Var(b.xid)
	w.Var(b.table)
	w.Byte(len(b.tabs))
	for _, t := range b.tabs {
		layTable(w, t)
	}
}

func (b checkpoint) take(r *code.Reader) body { return checkpoint{r.Var(), r.Var(), takeTables(r)} }
