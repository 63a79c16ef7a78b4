package catalog

import (
	"confluence/api"
	"confluence/value"
)

// Right tells whether a table may be.
func Right(t api.Table) api.Errno {
	switch {
	case !isNumber(t.ID) || !isNumber(t.Version):
		return api.ErrArg
	case !isName(t.Name):
		return api.ErrTableName
	}
	if e := wrongColumns(t.Columns); e != api.OK {
		return e
	}
	if !isKey(t.Columns, t.Key) {
		return api.ErrColumnKey
	}
	return api.OK
}

// Fit is a row as a table wants it: filled up with nulls.
func Fit(t api.Table, r api.Row) (api.Row, api.Errno) {
	if e := Right(t); e != api.OK {
		return nil, e
	}
	if len(r) > len(t.Columns) {
		return nil, api.ErrRowFit
	}
	full := make(api.Row, len(t.Columns)) // of nulls
	copy(full, r)
	for i, c := range t.Columns {
		if value.Fits(full[i], c) != api.OK {
			return nil, api.ErrRowFit
		}
	}
	return full, api.OK
}

// wrongColumns tells why columns are not right: OK, if they are.
func wrongColumns(l []api.Column) api.Errno {
	if len(l) < 1 || len(l) > api.MaxColumns {
		return api.ErrColumnMany
	}
	for i, c := range l {
		switch {
		case !isName(c.Name):
			return api.ErrTableName
		case hasColumn(l[:i], c.Name):
			return api.ErrColumnThere
		case !isKind(c.Kind):
			return api.ErrArg
		}
	}
	return api.OK
}

func hasColumn(l []api.Column, name string) bool {
	for _, c := range l {
		if c.Name == name {
			return true
		}
	}
	return false
}

func isKey(l []api.Column, key int) bool {
	return key >= 0 && key < len(l) && l[key].Kind != api.Bool && !l[key].Null
}

// isKind tells whether a column may be of a kind: of nulls alone there is none.
func isKind(kind int) bool { return kind == api.Int || kind == api.Text || kind == api.Bool }

func isNumber(n int) bool { return n >= 1 && n <= api.MaxXid }

func isName(s string) bool {
	if len(s) < 1 || len(s) > api.MaxName || !isLetter(s[0]) {
		return false
	}
	for i := range len(s) {
		if !isLetter(s[i]) && !isDigit(s[i]) && s[i] != '_' {
			return false
		}
	}
	return true
}

func isLetter(b byte) bool { return b >= 'a' && b <= 'z' }

func isDigit(b byte) bool { return b >= '0' && b <= '9' }
