package publish

import (
	"slices"

	"confluence/api"
	"confluence/code"
	"confluence/value"
)

// message is one of a kind: it has the fields of that, and no others. What take takes need not be right.
type message interface {
	fields() api.Message
	isRight() bool
	lay(w *code.Writer)
	take(r *code.Reader) message
}

// The messages that there are.
type (
	begin     struct{ xid, lsn int }
	shape     struct{ tab api.Table }
	insertion struct {
		table int
		row   api.Row
	}
	update struct {
		table    int
		from, to api.Row
	}
	deletion struct {
		table int
		row   api.Row
	}
	emptying struct{ table int }
	commit   struct{ xid, lsn, end int }
	mark     struct{ kind, lsn int } // MsgCopy, MsgCopied
)

// messageOf is what a message has of the fields of its kind; nil, if that is none.
func messageOf(m api.Message) message {
	switch m.Kind {
	case api.MsgBegin:
		return begin{m.Xid, m.Lsn}
	case api.MsgTable:
		return shape{m.Tab}
	case api.MsgInsert:
		return insertion{m.Table, m.New}
	case api.MsgUpdate:
		return update{m.Table, m.Old, m.New}
	case api.MsgDelete:
		return deletion{m.Table, m.Old}
	case api.MsgEmpty:
		return emptying{m.Table}
	case api.MsgCommit:
		return commit{m.Xid, m.Lsn, m.End}
	case api.MsgCopy, api.MsgCopied:
		return mark{m.Kind, m.Lsn}
	}
	return nil
}

// laid is a right message as bytes: nothing of one is too long or too great.
func laid(m message) string {
	w := code.NewWriter()
	w.Byte(m.fields().Kind)
	m.lay(w)
	s, _ := w.Done()
	return s
}

// same tells whether two messages have the same in each field; of rows and lists only what is within matters.
func same(a, b api.Message) bool {
	return a.Kind == b.Kind && a.Xid == b.Xid && a.Lsn == b.Lsn && a.End == b.End && a.Table == b.Table &&
		sameTable(a.Tab, b.Tab) && value.Same(a.Old, b.Old) && value.Same(a.New, b.New)
}

func sameTable(a, b api.Table) bool {
	return a.ID == b.ID && a.Version == b.Version && a.Name == b.Name && slices.Equal(a.Columns, b.Columns) && a.Key == b.Key
}

func (m begin) fields() api.Message {
	return api.Message{Kind: api.MsgBegin, Xid: m.xid, Lsn: m.lsn}
}

func (m begin) lay(w *code.Writer) {
	w.Var(m.xid)
	w.Var(m.lsn)
}

func (m begin) take(r *code.Reader) message { return begin{r.Var(), r.Var()} }

func (m shape) fields() api.Message { return api.Message{Kind: api.MsgTable, Tab: m.tab} }

func (m shape) lay(w *code.Writer) { layTable(w, m.tab) }

func (m shape) take(r *code.Reader) message { return shape{takeTable(r)} }

func (m insertion) fields() api.Message {
	return api.Message{Kind: api.MsgInsert, Table: m.table, New: m.row}
}

func (m insertion) lay(w *code.Writer) {
	w.Var(m.table)
	layRow(w, m.row)
}

func (m insertion) take(r *code.Reader) message { return insertion{r.Var(), takeRow(r)} }

func (m update) fields() api.Message {
	return api.Message{Kind: api.MsgUpdate, Table: m.table, Old: m.from, New: m.to}
}

func (m update) lay(w *code.Writer) {
	w.Var(m.table)
	layRow(w, m.from)
	layRow(w, m.to)
}

func (m update) take(r *code.Reader) message { return update{r.Var(), takeRow(r), takeRow(r)} }

func (m deletion) fields() api.Message {
	return api.Message{Kind: api.MsgDelete, Table: m.table, Old: m.row}
}

func (m deletion) lay(w *code.Writer) {
	w.Var(m.table)
	layRow(w, m.row)
}

func (m deletion) take(r *code.Reader) message { return deletion{r.Var(), takeRow(r)} }

func (m emptying) fields() api.Message { return api.Message{Kind: api.MsgEmpty, Table: m.table} }

func (m emptying) lay(w *code.Writer) { w.Var(m.table) }

func (m emptying) take(r *code.Reader) message { return emptying{r.Var()} }

func (m commit) fields() api.Message {
	return api.Message{Kind: api.MsgCommit, Xid: m.xid, Lsn: m.lsn, End: m.end}
}

func (m commit) lay(w *code.Writer) {
	w.Var(m.xid)
	w.Var(m.lsn)
	w.Var(m.end)
}

func (m commit) take(r *code.Reader) message { return commit{r.Var(), r.Var(), r.Var()} }

func (m mark) fields() api.Message { return api.Message{Kind: m.kind, Lsn: m.lsn} }

func (m mark) lay(w *code.Writer) { w.Var(m.lsn) }

func (m mark) take(r *code.Reader) message { return mark{m.kind, r.Var()} }
