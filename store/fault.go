package store

import (
	"errors"

	"clerestory/api"
)

// What may be wrong.
var (
	errArg   = errors.New("a batch that may not be")
	errBig   = errors.New("more than there may be")
	errBytes = errors.New("bytes of which no store is the maker")
	errNone  = errors.New("a file that is not there")
)

// number is what a call answers for an error.
func number(err error) api.Errno {
	switch {
	case errors.Is(err, errArg):
		return api.ErrArg
	case errors.Is(err, errBig):
		return api.ErrBig
	case errors.Is(err, errBytes):
		return api.ErrBytes
	case errors.Is(err, errNone):
		return api.ErrNone
	}
	return api.OK
}
