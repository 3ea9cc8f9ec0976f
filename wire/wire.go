// Package wire is layer 1: numbers as bytes.
package wire

import (
	"sync/atomic"

	"thalweg/api"
)

const (
	mostBytes = 7   // of a number that has no sign: it fits an int whatever its bytes are
	intBytes  = 8   // of any int
	sumRest   = 251 // a prime below 256, so that each half of a sum is one byte
)

// Put answers the n bytes of v, the highest first.
func Put(v int, n int) ([]byte, api.Errno) {
	if n < 1 || n > mostBytes || v < 0 || v >= 1<<(8*n) {
		return nil, api.ErrArg
	}
	return spell(uint64(v), n), api.OK
}

// Get answers the number of the n bytes of b from at on, and the place behind them.
func Get(b []byte, at int, n int) (int, int, api.Errno) {
	if n < 1 || n > mostBytes {
		return 0, 0, api.ErrArg
	}
	return read(b, at, n)
}

// Int answers the eight bytes of any v, the highest first.
func Int(v int) []byte {
	return spell(uint64(v), intBytes)
}

// GetInt answers the number whose Int stands in b from at on, and the place behind it.
func GetInt(b []byte, at int) (int, int, api.Errno) {
	return read(b, at, intBytes)
}

// Sum answers the sum of b. Its second half hangs on the order of the bytes, too, as the first one does not.
func Sum(b []byte) int {
	plain, weighed := 1, 0
	for _, c := range b {
		plain = (plain + int(c)) % sumRest
		weighed = (weighed + plain) % sumRest
	}
	return 256*weighed + plain
}

// spell answers the n lowest bytes of v, the highest first. The word is the call's own, so that calls at one time do not meet.
func spell(v uint64, n int) []byte {
	var word atomic.Uint64
	word.Store(v)
	b := make([]byte, n)
	for i := range b {
		b[i] = byte(word.Load() >> (8 * (n - 1 - i)))
	}
	return b
}

// read answers the number of n bytes. It counts down from len(b), as at and n together may be above all ints.
func read(b []byte, at int, n int) (int, int, api.Errno) {
	if at < 0 || at > len(b) {
		return 0, 0, api.ErrArg
	}
	if len(b)-at < n {
		return 0, 0, api.ErrMore
	}
	var v uint64
	for _, c := range b[at : at+n] {
		v = v<<8 | uint64(c)
	}
	return int(v), at + n, api.OK
}
