// Package reader reads what stands in bytes one behind the other. It is no layer: those that parse share it.
package reader

import (
	"thalweg/api"
	"thalweg/wire"
)

// Reader is the place from which on is read, and the first error. The bytes are handed in at each step, so that none are kept.
type Reader struct {
	at int
	e  api.Errno
}

// New answers a reader from the place at on.
func New(at int) *Reader { return &Reader{at: at} }

// Next answers what parse finds next. Behind the first error nothing is read any more, and noughts are answered.
func Next[T any](r *Reader, b []byte, parse func(b []byte, at int) (T, int, api.Errno)) T {
	var v T
	if r.e == api.OK {
		v, r.at, r.e = parse(b, r.at)
	}
	return v
}

// Number answers the number of the next n bytes.
func (r *Reader) Number(b []byte, n int) int {
	return Next(r, b, func(b []byte, at int) (int, int, api.Errno) { return wire.Get(b, at, n) })
}

// Int answers the number whose Int stands next.
func (r *Reader) Int(b []byte) int { return Next(r, b, wire.GetInt) }

// Need makes ErrForm the error, if what was read may not be. An error that came first stays.
func (r *Reader) Need(ok bool) {
	if r.e == api.OK && !ok {
		r.e = api.ErrForm
	}
}

// Done answers v, if it is right, and the place behind all that was read; else noughts, and the first error.
func Done[T any](r *Reader, v T, right bool) (T, int, api.Errno) {
	r.Need(right)
	if r.e != api.OK {
		var none T
		return none, 0, r.e
	}
	return v, r.at, api.OK
}
