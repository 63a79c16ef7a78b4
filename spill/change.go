package spill

import (
	"confluence/api"
	"confluence/code"
	"confluence/value"
)

// maxRow is how many bytes a row may have.
const maxRow = 1700

// lay is a right change as bytes.
func lay(c api.Change) (string, error) {
	from, wrongFrom := value.Encode(c.Old)
	to, wrongTo := value.Encode(c.New)
	if !isRight(c) || wrongFrom != api.OK || wrongTo != api.OK {
		return "", fault{"a change", errArg}
	}
	w := code.NewWriter()
	w.Var(c.Lsn)
	w.Var(c.Xid)
	w.Byte(c.Kind)
	w.Var(c.Table)
	w.Text(from, maxRow)
	w.Text(to, maxRow)
	// Rows that can be written have fewer bytes than they may have here, and both together fewer than a frame: so nothing is too long.
	payload, _ := w.Done()
	frame, _ := code.Frame(payload)
	return frame, nil
}

// take is the right change with which a text begins, and how many bytes it has there.
func take(s string) (api.Change, int, error) {
	payload, size, e := code.Unframe(s)
	if e != api.OK {
		return api.Change{}, 0, fault{"a frame", errForm}
	}
	r := code.NewReader(payload)
	c := api.Change{Lsn: r.Var(), Xid: r.Var(), Kind: r.Byte(), Table: r.Var()}
	from, to := r.Text(maxRow), r.Text(maxRow)
	if e, _ := r.Done(); e != api.OK || !isRight(c) {
		return api.Change{}, 0, fault{"what a frame has", errForm}
	}
	var wrongFrom, wrongTo api.Errno
	c.Old, wrongFrom = value.Decode(from)
	c.New, wrongTo = value.Decode(to)
	if wrongFrom != api.OK || wrongTo != api.OK {
		return api.Change{}, 0, fault{"a row", errForm}
	}
	return c, size, nil
}

// isRight tells whether a change is right in all but its rows, which are asked for where they are laid down and taken.
func isRight(c api.Change) bool {
	return c.Lsn >= 1 && c.Table >= 1 && isXid(c.Xid) && isKind(c.Kind)
}

func isXid(n int) bool { return n >= 1 && n <= api.MaxXid }

func isKind(kind int) bool {
	return kind == api.RecInsert || kind == api.RecUpdate || kind == api.RecDelete
}
