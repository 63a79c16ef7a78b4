// Package code: numbers and texts as bytes, strictly; frames: see DOC.md, chapter 1.
package code

import (
	"errors"
	"strconv"

	"confluence/api"
)

// Of the digits of a number: the base, and what all of them but the last one have added.
const (
	digitBase = 128
	digitMore = 128
)

// fault is what was wrong with a call.
type fault struct {
	code api.Errno
}

// Error tells the number of what was wrong.
func (f fault) Error() string {
	return "code: error " + strconv.Itoa(int(f.code))
}

// codeOf is what was wrong, or OK if nothing was.
func codeOf(wrong error) api.Errno {
	var f fault
	if errors.As(wrong, &f) {
		return f.code
	}
	return api.OK
}

// fold is a number with its sign folded; n + 1 keeps the least int from running over.
func fold(n int) uint64 {
	if n >= 0 {
		return 2 * uint64(n)
	}
	return 2*uint64(-(n+1)) + 1
}

// unfold is the number that fold has folded.
func unfold(u uint64) int {
	half := int(u / 2)
	if u%2 == 0 {
		return half
	}
	return -half - 1
}
