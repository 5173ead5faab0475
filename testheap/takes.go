package testheap

import (
	"slices"

	"flotsam/api"
)

// ClassFor answers, for each number of fields that may be, the least class for these.
func ClassFor() []int { return []int{0, 0, 1, 1, 2, 2, 2, 2, 3, 3, 3, 3, 3, 3, 3, 3} }

// Places answers in how many places of the caches a page stands.
func Places(caches [][api.Classes]int, page int) int {
	n := 0
	for _, x := range caches {
		for _, p := range x {
			if p == page {
				n++
			}
		}
	}
	return n
}

// Found answers, by the chapter's words alone, the page that is to be found for a mutator and a class; -1, if none is.
func Found(h api.Heap, caches [][api.Classes]int, m, c int) int {
	for rank := range 3 {
		for p, s := range h.Spans {
			has := s.State == api.SpanClean && s.Class == c && s.Free != 0
			if [3]bool{has && caches[m][c] == p, has && Places(caches, p) == 0, s.State == api.SpanFree}[rank] {
				return p
			}
		}
	}
	return -1
}

// Taken answers, by the chapters' words alone, what a taking is to answer of a heap that has its form, and right caches.
func Taken(h api.Heap, caches [][api.Classes]int, m, fields int) (api.Heap, [][api.Classes]int, int, bool) {
	if fields < 0 || fields > 15 {
		return h, caches, 0, false
	}
	c := ClassFor()[fields]
	p := Found(h, caches, m, c)
	if p < 0 {
		return h, caches, 0, false
	}
	h, caches = Kept(h), slices.Clone(caches)
	if h.Spans[p].State == api.SpanFree {
		h.Spans[p] = api.Span{State: api.SpanClean, Class: c, Free: AllFree(c)}
	}
	caches[m][c] = p
	index := 0
	for h.Spans[p].Free>>index&1 == 0 {
		index++
	}
	h.Spans[p].Free -= 1 << index
	at := 32*p + index*WordsOf(c)
	Write(h, at, make([]uint64, WordsOf(c))...)
	h.Words[at] = uint64(128 + 16*c + fields)
	if h.Sense {
		h.Words[at] += Colour
	}
	return h, caches, at, true
}
