package code

import "confluence/api"

// Writer writes bytes; what does not fit is told at the end.
type Writer struct {
	laid  []byte
	wrong error
}

// NewWriter makes one.
func NewWriter() *Writer { return &Writer{} }

// Byte writes numbers, each as a byte.
func (w *Writer) Byte(l ...int) {
	for _, n := range l {
		if n < 0 || n > 255 {
			w.fail(api.ErrCodeRange)
			return
		}
		w.lay(byte(n))
	}
}

// Var writes a number by as few bytes as may be.
func (w *Writer) Var(n int) {
	if n < 0 {
		w.fail(api.ErrCodeRange)
		return
	}
	w.digits(uint64(n))
}

// Int writes a number that may be below 0.
func (w *Writer) Int(n int) { w.digits(fold(n)) }

// Text writes a text of at most so many bytes, its length ahead.
func (w *Writer) Text(s string, most int) {
	switch {
	case most < 0:
		w.fail(api.ErrArg)
	case len(s) > most:
		w.fail(api.ErrCodeLong)
	default:
		w.Var(len(s))
		w.Raw(s)
	}
}

// Raw writes bytes.
func (w *Writer) Raw(s string) { w.lay([]byte(s)...) }

// Done is all that was written, or what did not fit first.
func (w *Writer) Done() (string, api.Errno) {
	if e := codeOf(w.wrong); e != api.OK {
		return "", e
	}
	return string(w.laid), api.OK
}

func (w *Writer) digits(n uint64) {
	for n >= digitBase {
		w.lay(byte(n%digitBase) + digitMore)
		n /= digitBase
	}
	w.lay(byte(n))
}

// lay keeps nothing behind a fault: nobody will ask for it.
func (w *Writer) lay(l ...byte) {
	if w.wrong == nil {
		w.laid = append(w.laid, l...)
	}
}

// fail keeps the first fault alone, and lets go of bytes that nobody will ask for.
func (w *Writer) fail(e api.Errno) {
	if w.wrong == nil {
		w.wrong = fault{e}
		w.laid = nil
	}
}
