package publish

import (
	"confluence/api"
	"confluence/code"
	"confluence/value"
)

// maxRow is how many bytes a row may have; none that value.Encode takes has as many.
const maxRow = 1700

// layRow lays a right row down.
func layRow(w *code.Writer, row api.Row) {
	s, _ := value.Encode(row)
	w.Text(s, maxRow)
}

// takeRow gives, of bytes that are no row, one without values, which no message may have.
func takeRow(r *code.Reader) api.Row {
	row, _ := value.Decode(r.Text(maxRow))
	return row
}

// layTable lays a right table down.
func layTable(w *code.Writer, t api.Table) {
	w.Var(t.ID)
	w.Var(t.Version)
	layName(w, t.Name)
	w.Byte(len(t.Columns))
	for _, c := range t.Columns {
		layName(w, c.Name)
		w.Byte(c.Kind, nullByte(c.Null))
	}
	w.Byte(t.Key)
}

func takeTable(r *code.Reader) api.Table {
	t := api.Table{ID: r.Var(), Version: r.Var(), Name: takeName(r)}
	for range r.Byte() {
		t.Columns = append(t.Columns, api.Column{Name: takeName(r), Kind: r.Byte(), Null: r.Byte() == nullByte(true)})
	}
	t.Key = r.Byte()
	return t
}

func nullByte(null bool) int {
	if null {
		return 1
	}
	return 0
}

func layName(w *code.Writer, s string) { w.Text(s, api.MaxName) }

func takeName(r *code.Reader) string { return r.Text(api.MaxName) }
