package testheap

import "flotsam/api"

// AllFree answers the mask of all blocks of a class.
func AllFree(class int) uint32 { return [...]uint32{0xffff, 0xff, 0xf, 0x3}[class] }

// Stands tells, by the chapter's words alone, whether a page stands in one of the caches.
func Stands(caches [][api.Classes]int, page int) bool {
	for _, x := range caches {
		for _, p := range x {
			if p == page {
				return true
			}
		}
	}
	return false
}

// Swept answers, by the chapters' words alone, a heap in which the least dirty page is swept, that page, how many words were
// freed, and whether one is dirty.
func Swept(h api.Heap, caches [][api.Classes]int) (api.Heap, int, int, bool) {
	page := 0
	for page < len(h.Spans) && h.Spans[page].State != api.SpanDirty {
		page++
	}
	if page == len(h.Spans) {
		return h, 0, 0, false
	}
	g, freed := Kept(h), 0
	s := h.Spans[page]
	for i := range 32 / WordsOf(s.Class) {
		at := 32*page + i*WordsOf(s.Class)
		x := HeaderAt(h, at)
		if x.Used && x.Colour != h.Sense && s.Free>>i&1 == 0 {
			Write(g, at, make([]uint64, WordsOf(s.Class))...)
			s.Free += 1 << i
			freed += WordsOf(s.Class)
		}
	}
	s.State = api.SpanClean
	if s.Free == AllFree(s.Class) && !Stands(caches, page) {
		s = api.Span{}
	}
	g.Spans[page] = s
	return g, page, freed, true
}
