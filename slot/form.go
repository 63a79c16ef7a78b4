package slot

import (
	"confluence/api"
	"confluence/code"
	"confluence/publish"
)

// What the file begins with; how many bytes its check has, and a publication may have.
const (
	fileMark       = "SL"
	checkSize      = 4
	maxPublication = 5000
)

// noSlots is what is wrong with a file that is no slots'.
type noSlots struct {
	why string
}

// Error tells it.
func (n noSlots) Error() string { return "slot: no slots: " + n.why }

// lay is right slots, by rising names, as the file's bytes.
func lay(l []api.Slot) string {
	w := code.NewWriter()
	w.Raw(fileMark)
	w.Byte(len(l))
	for _, x := range l {
		laySlot(w, x)
	}
	// Of right slots no number and no text is too great: so nothing is wrong.
	s, _ := w.Done()
	return s + checkOf(s)
}

// laySlot lays a right one down; no right publication has as many bytes as it may have here.
func laySlot(w *code.Writer, x api.Slot) {
	p, _ := publish.EncodePublication(x.Publication)
	w.Text(x.Name, api.MaxName)
	w.Var(x.Confirmed)
	w.Var(x.Restart)
	w.Text(p, maxPublication)
}

// take is the slots whose bytes these are.
func take(s string) ([]api.Slot, error) {
	r := code.NewReader(s)
	if r.Raw(len(fileMark)) != fileMark {
		return nil, noSlots{"other letters"}
	}
	l, wrong := takeSlots(r, r.Byte())
	if wrong != nil {
		return nil, wrong
	}
	ahead := s[:len(s)-r.Left()]
	if r.Raw(checkSize) != checkOf(ahead) {
		return nil, noSlots{"another check"}
	}
	if r.Left() > 0 {
		return nil, noSlots{"more bytes"}
	}
	return l, nil
}

// takeSlots takes so many, by rising names.
func takeSlots(r *code.Reader, count int) ([]api.Slot, error) {
	if count > api.MaxSlots {
		return nil, noSlots{"too many"}
	}
	var l []api.Slot
	ahead := "" // no name, and below all of them
	for range count {
		x, wrong := takeSlot(r)
		if wrong != nil {
			return nil, wrong
		}
		if x.Name <= ahead {
			return nil, noSlots{"names that do not rise"}
		}
		ahead = x.Name
		l = append(l, x)
	}
	return l, nil
}

// takeSlot need not ask whether the bytes have ended: what a reader answers then is no right slot.
func takeSlot(r *code.Reader) (api.Slot, error) {
	x := api.Slot{Name: r.Text(api.MaxName), Confirmed: r.Var(), Restart: r.Var()}
	p, e := publish.DecodePublication(r.Text(maxPublication))
	if e != api.OK || !isRight(x) {
		return api.Slot{}, noSlots{"a slot that is not right"}
	}
	x.Publication = p
	return x, nil
}

// checkOf is the check of bytes, the lowest byte first.
func checkOf(s string) string {
	c := code.Check(s)
	return string([]byte{byte(c), byte(c >> 8), byte(c >> 16), byte(c >> 24)})
}
