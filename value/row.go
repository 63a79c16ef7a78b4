package value

import (
	"confluence/api"
	"confluence/code"
)

// What stands ahead of each value of a row, and tells what it is.
const (
	rowNull  = 0
	rowInt   = 1
	rowText  = 2
	rowFalse = 3
	rowTrue  = 4
)

// Encode is a row as bytes.
func Encode(r api.Row) (string, api.Errno) {
	if len(r) > api.MaxColumns {
		return "", api.ErrValueWide
	}
	w := code.NewWriter()
	w.Byte(len(r))
	for _, v := range r {
		if e := wrong(v); e != api.OK {
			return "", e
		}
		write(w, v)
	}
	return w.Done()
}

// Decode reads it.
func Decode(s string) (api.Row, api.Errno) {
	from := code.NewReader(s)
	n := from.Byte()
	if n > api.MaxColumns {
		return nil, api.ErrValueForm
	}
	r := make(api.Row, n)
	for i := range r {
		v, ok := read(from)
		if !ok {
			return nil, api.ErrValueForm
		}
		r[i] = v
	}
	// The reader takes no number and no text that a writer would have laid down otherwise: so nothing more is to be asked.
	if e, _ := from.Done(); e != api.OK {
		return nil, api.ErrValueForm
	}
	return r, api.OK
}

// write lays a right value down.
func write(w *code.Writer, v api.Value) {
	switch v.Kind {
	case api.Null:
		w.Byte(rowNull)
	case api.Int:
		w.Byte(rowInt)
		w.Int(v.N)
	case api.Text:
		w.Byte(rowText)
		w.Text(v.S, api.MaxText)
	case api.Bool:
		w.Byte(rowFalse + v.N)
	}
}

// read takes a value; false, if no value begins so. Behind a fault of the reader it gives any value: the fault is asked for in the end.
func read(r *code.Reader) (api.Value, bool) {
	switch mark := r.Byte(); mark {
	case rowNull:
		return api.Value{}, true
	case rowInt:
		return api.Value{Kind: api.Int, N: r.Int()}, true
	case rowText:
		return api.Value{Kind: api.Text, S: r.Text(api.MaxText)}, true
	case rowFalse, rowTrue:
		return api.Value{Kind: api.Bool, N: mark - rowFalse}, true
	}
	return api.Value{}, false
}
