package link

import (
	"confluence/api"
	"confluence/code"
)

// checkSize is how many bytes the check has, with which all that goes over the line ends.
const checkSize = 4

// seal is what was written, with its check. No number is below 0, and no text too long, that is written here: so nothing is wrong.
func seal(w *code.Writer) string {
	s, _ := w.Done()
	return s + checkOf(s)
}

// unseal reads what stands ahead of the check; false: there is none, or it is another one.
func unseal(s string) (*code.Reader, bool) {
	if len(s) < checkSize {
		return nil, false
	}
	body, check := s[:len(s)-checkSize], s[len(s)-checkSize:]
	return code.NewReader(body), check == checkOf(body)
}

// isTaken tells whether nothing was wrong, and nothing is left.
func isTaken(r *code.Reader) bool {
	e, _ := r.Done()
	return e == api.OK
}

// checkOf is the check of bytes, the lowest byte first.
func checkOf(s string) string {
	c := code.Check(s)
	return string([]byte{byte(c), byte(c >> 8), byte(c >> 16), byte(c >> 24)})
}
