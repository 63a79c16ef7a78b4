package spill

import (
	"errors"

	"confluence/api"
)

// What may be wrong, in the layer's own words.
var (
	errArg   = errors.New("a number or a list that may not be")
	errDead  = errors.New("the disk is dead")
	errFull  = errors.New("no room is left")
	errThere = errors.New("the file is there")
	errNone  = errors.New("there is nothing of that")
	errForm  = errors.New("no change")
)

// fault is what was refused below, about something: it wraps the layer's own word for it.
type fault struct {
	about string
	why   error
}

// Error tells what it was about, and why.
func (f fault) Error() string { return "spill: " + f.about + ": " + f.why.Error() }

// Unwrap is the layer's own word.
func (f fault) Unwrap() error { return f.why }

// refused is what a disk answered of a file; nil, if it did what it was asked for.
func refused(file string, e api.Errno) error {
	switch e {
	case api.OK:
		return nil
	case api.ErrDead:
		return fault{file, errDead}
	case api.ErrFileFull:
		return fault{file, errFull}
	case api.ErrFileThere:
		return fault{file, errThere}
	case api.ErrFileNone:
		return fault{file, errNone}
	}
	return fault{file, errForm}
}

// answer is what the face tells of what is wrong.
func answer(wrong error) api.Errno {
	switch {
	case wrong == nil:
		return api.OK
	case errors.Is(wrong, errArg):
		return api.ErrArg
	case errors.Is(wrong, errDead):
		return api.ErrDead
	case errors.Is(wrong, errFull):
		return api.ErrFileFull
	case errors.Is(wrong, errNone):
		return api.ErrSpillNone
	}
	return api.ErrSpillForm
}
