package record

import (
	"confluence/api"
	"confluence/code"
	"confluence/value"
)

// layRow lays a right row down.
func layRow(w *code.Writer, row api.Row) {
	s, _ := value.Encode(row)
	w.Text(s, api.MaxPayload)
}

// takeRow gives, of bytes that are no row, one without values, which no record may have.
func takeRow(r *code.Reader) api.Row {
	row, _ := value.Decode(r.Text(api.MaxPayload))
	return row
}

// layTable lays a right table down.
func layTable(w *code.Writer, t api.Table) {
	w.Var(t.ID)
	w.Var(t.Version)
	w.Text(t.Name, api.MaxName)
	w.Byte(len(t.Columns))
	for _, c := range t.Columns {
		w.Text(c.Name, api.MaxName)
		w.Byte(c.Kind, nullByte(c.Null))
	}
	w.Byte(t.Key)
}

func takeTable(r *code.Reader) api.Table {
	t := api.Table{ID: r.Var(), Version: r.Var(), Name: r.Text(api.MaxName)}
	for range r.Byte() {
		t.Columns = append(t.Columns, takeColumn(r))
	}
	t.Key = r.Byte()
	return t
}

func takeColumn(r *code.Reader) api.Column {
	return api.Column{Name: r.Text(api.MaxName), Kind: r.Byte(), Null: r.Byte() == nullByte(true)}
}

func takeTables(r *code.Reader) []api.Table {
	var l []api.Table
	for range r.Byte() {
		l = append(l, takeTable(r))
	}
	return l
}

func nullByte(null bool) int {
	if null {
		return 1
	}
	return 0
}
