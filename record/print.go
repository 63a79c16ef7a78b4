package record

import (
	"strconv"
	"strings"

	"confluence/api"
	"confluence/value"
)

// verbs are what records begin with when they are printed, by their kinds.
var verbs = [...]string{
	api.RecBegin: "begin", api.RecPart: "part", api.RecInsert: "insert", api.RecUpdate: "update", api.RecDelete: "delete",
	api.RecRelease: "release", api.RecBack: "back", api.RecCommit: "commit", api.RecAbort: "abort", api.RecPrepare: "prepare",
	api.RecCreate: "create", api.RecDrop: "drop", api.RecWiden: "widen", api.RecEmpty: "empty", api.RecCheckpoint: "checkpoint",
}

// Print tells it in a line.
func Print(r api.Rec) string {
	b, e := rightBody(r)
	if e != api.OK {
		return "?"
	}
	return verbs[r.Kind] + " " + strings.Join(words(b), " ")
}

// words are those of a right body, behind the verb.
func words(b body) []string {
	var l []string
	switch b := b.(type) {
	case lone:
		l = []string{digits(b.xid)}
	case part:
		l = []string{digits(b.xid), "of", digits(b.parent)}
	case insertion:
		l = []string{digits(b.xid), "table", digits(b.table), printRow(b.row)}
	case update:
		l = []string{digits(b.xid), "table", digits(b.table), printRow(b.from), "to", printRow(b.to)}
	case deletion:
		l = []string{digits(b.xid), "table", digits(b.table), printRow(b.row)}
	case commit:
		l = commitWords(b)
	case prepare:
		l = []string{digits(b.xid), "as", b.name}
	case shape:
		l = []string{digits(b.xid), printTable(b.tab)}
	case whole:
		l = []string{digits(b.xid), "table", digits(b.table)}
	case checkpoint:
		l = checkpointWords(b)
	}
	return l
}

func commitWords(b commit) []string {
	l := []string{digits(b.xid)}
	if b.name != "" {
		l = append(l, "from", b.name, "at", digits(b.origin))
	}
	return l
}

func checkpointWords(b checkpoint) []string {
	l := []string{"next", digits(b.xid), "table", digits(b.table)}
	for _, t := range b.tabs {
		l = append(l, printTable(t))
	}
	return l
}

func digits(n int) string { return strconv.Itoa(n) }

func printRow(r api.Row) string {
	l := make([]string, len(r))
	for i, v := range r {
		l[i] = value.Print(v)
	}
	return inBrackets(l)
}

func printTable(t api.Table) string {
	l := make([]string, len(t.Columns))
	for i, c := range t.Columns {
		l[i] = printColumn(c)
	}
	return t.Name + " " + digits(t.ID) + "." + digits(t.Version) + " " + inBrackets(l) + " key " + t.Columns[t.Key].Name
}

func printColumn(c api.Column) string {
	s := c.Name + " " + kindName(c.Kind)
	if c.Null {
		s += " null"
	}
	return s
}

func kindName(kind int) string {
	switch kind {
	case api.Int:
		return "int"
	case api.Text:
		return "text"
	}
	return "bool"
}

func inBrackets(l []string) string { return "(" + strings.Join(l, ", ") + ")" }
