// Package word is layer 1: values as words.
package word

import (
	"math"

	"flotsam/api"
)

// May tells whether v is a value that may be.
func May(v api.Value) bool {
	switch v.Kind {
	case api.Nil:
		return v.N == 0
	case api.Int:
		return v.N >= 0
	case api.Ref:
		// The word of the greatest N would need a bit more than 64.
		return v.N >= 0 && v.N < math.MaxInt64
	}
	return false
}

// Put answers v's word, and whether v may be.
func Put(v api.Value) (uint64, bool) {
	if !May(v) {
		return 0, false
	}
	switch v.Kind {
	case api.Int:
		return 2*uint64(v.N) + 1, true
	case api.Ref:
		// The 1 more keeps the word 0 for Nil alone.
		return 2 * (uint64(v.N) + 1), true
	}
	return 0, true
}

// Get answers the value whose word is w.
func Get(w uint64) api.Value {
	switch {
	case w == 0:
		return api.Value{}
	case w%2 == 1:
		return api.Value{Kind: api.Int, N: int(w / 2)}
	}
	return api.Value{Kind: api.Ref, N: int(w/2 - 1)}
}
