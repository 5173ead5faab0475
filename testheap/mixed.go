package testheap

import "flotsam/api"

// Mixed answers a heap, written out by hand, of white and black objects, of such as don't lie apart, of headers that are
// none, and of pages of all kinds; its sense is true.
func Mixed() api.Heap {
	h := Blank(
		api.Span{State: api.SpanClean, Class: 0, Free: 0xfff8},
		api.Span{},
		api.Span{State: api.SpanDirty, Class: 1},
		api.Span{State: api.SpanClean, Class: 2},
		api.Span{State: api.SpanDirty, Class: 3, Free: 2},
	)
	h.Sense = true
	Write(h, 0, 129, RefTo(64))                // white
	Write(h, 2, 193, RefTo(0))                 // black
	Write(h, 4, 128, RefTo(2))                 // white, no field
	Write(h, 6, 65, RefTo(0))                  // not Used
	Write(h, 8, 129, RefTo(8))                 // white, in a free block
	Write(h, 10, 209, RefTo(0))                // black, of class 1
	Write(h, 24, 166, 0, 163, 5, 163, 0, 0, 9) // white, of class 2; at 26 and 28 such ones too
	Write(h, 32, 129, RefTo(0))                // in a free page
	Write(h, 64, 147, RefTo(68), 128, 129)     // white; 65 to 67 are no blocks
	Write(h, 68, 211, RefTo(64))               // black
	Write(h, 92, 148)                          // too many fields for its class
	Write(h, 96, 167, RefTo(96))               // white
	Write(h, 104, 231, RefTo(112))             // black
	Write(h, 120, 184, RefTo(96))              // too many fields for the page
	Write(h, 128, 191, RefTo(144), 129, 1, 3)  // white
	Write(h, 144, 255)                         // black, in a free block, to the heap's last word
	return h
}

// MixedWhites are the addresses of Mixed's white objects; black ones in the other sense.
func MixedWhites() []int { return []int{0, 4, 8, 24, 26, 28, 64, 96, 128} }

// MixedBlacks are the addresses of its black ones; white ones in the other sense.
func MixedBlacks() []int { return []int{2, 10, 68, 104, 144} }

// MixedNoObjects are addresses at which it has no object.
func MixedNoObjects() []int {
	return append([]int{1, 3, 5, 6, 7, 12, 25, 27, 30, 31, 32, 34, 63, 65, 66, 67, 70, 92, 112, 120, 129, 130, 159, 160, 161, 192}, Far()...)
}
