package link

import "confluence/code"

const pieceMark = "LD"

// transaction is what all pieces of one say of it: the place behind which it comes, where it ends, how many pieces it has.
type transaction struct {
	behind, end, pieces int
}

// piece is what a frame has: some messages of a transaction, and which ones they are.
type piece struct {
	of       transaction
	number   int
	messages []string
}

// cut makes pieces of messages; false: a message is too long, or there would be too many pieces, or too many messages in one.
func cut(messages []string) ([][]string, bool) {
	var pieces [][]string
	first, bytes := 0, 0
	for i, m := range messages {
		if bytes+len(m) > maxBytes {
			pieces = append(pieces, messages[first:i])
			first, bytes = i, 0
		}
		bytes += len(m)
		if len(m) > maxBytes || len(pieces) >= maxPieces || i-first >= maxMessages {
			return nil, false
		}
	}
	return append(pieces, messages[first:]), true
}

// layPieces is a transaction as frames, one for each of its pieces.
func layPieces(behind, end int, pieces [][]string) []string {
	of := transaction{behind, end, len(pieces)}
	frames := make([]string, len(pieces))
	for number, messages := range pieces {
		frames[number] = layPiece(piece{of, number, messages})
	}
	return frames
}

func layPiece(p piece) string {
	w := code.NewWriter()
	w.Raw(pieceMark)
	w.Var(p.of.behind)
	w.Var(p.of.end)
	w.Var(p.number)
	w.Var(p.of.pieces)
	w.Var(len(p.messages))
	for _, m := range p.messages {
		w.Text(m, maxBytes)
	}
	return seal(w)
}

// takePiece is the piece that a right frame has; false: it is none.
func takePiece(frame string) (piece, bool) {
	r, whole := unseal(frame)
	if !whole || r.Raw(len(pieceMark)) != pieceMark {
		return piece{}, false
	}
	var p piece
	p.of.behind, p.of.end = r.Var(), r.Var()
	p.number, p.of.pieces = r.Var(), r.Var()
	count := r.Var()
	// Each message has a byte at least: so no more are taken than there can be.
	if !isRight(p, count) || count > r.Left() {
		return piece{}, false
	}
	for range count {
		p.messages = append(p.messages, r.Text(maxBytes))
	}
	if !isTaken(r) {
		return piece{}, false
	}
	return p, true
}

// isRight tells whether a piece may say so of itself, if it has so many messages.
func isRight(p piece, count int) bool {
	of := p.of
	switch {
	case !isPosition(of.behind) || !isPosition(of.end) || of.end <= of.behind:
		return false
	case of.pieces < 1 || of.pieces > maxPieces || p.number >= of.pieces:
		return false
	case count == 0:
		return of.pieces == 1
	}
	return count <= maxMessages
}
