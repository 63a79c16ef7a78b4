package link

import (
	"sync"

	"confluence/code"
)

const wordMark = "LW"

// word is what a receiver says while all up to a position is done: it has another one for each position.
type word struct {
	position int
	once     sync.Once
	laid     string
}

// tell may be asked often, and by several at a time, while little is done: the bytes are worked out at the first time.
func (w *word) tell() string {
	w.once.Do(func() { w.laid = layWord(w.position) })
	return w.laid
}

func layWord(position int) string {
	w := code.NewWriter()
	w.Raw(wordMark)
	w.Var(position)
	return seal(w)
}

// takeWord is the position that a word tells; false: it is none.
func takeWord(frame string) (int, bool) {
	r, whole := unseal(frame)
	if !whole || r.Raw(len(wordMark)) != wordMark {
		return 0, false
	}
	position := r.Var()
	if !isTaken(r) || !isPosition(position) {
		return 0, false
	}
	return position, true
}
