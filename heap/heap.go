// Package heap: things that wait, with the first one of them at hand.
package heap

// Heap holds things such that neither of those at 2k+1 and 2k+2 comes ahead of the one at k.
type Heap[T any] struct {
	items []T
	ahead func(a, b T) bool
}

// New makes an empty heap; ahead tells whether a comes ahead of b.
func New[T any](ahead func(a, b T) bool) *Heap[T] {
	return &Heap[T]{ahead: ahead}
}

// Push lays a thing to those that wait.
func (h *Heap[T]) Push(item T) {
	h.items = append(h.items, item)
	h.rise(len(h.items) - 1)
}

// Pop takes the first one out. It tells false if there is none.
func (h *Heap[T]) Pop() (T, bool) {
	var none T
	if len(h.items) == 0 {
		return none, false
	}
	first, last := h.items[0], len(h.items)-1
	h.items[0] = h.items[last]
	h.items[last] = none // else what it refers to would stay in memory
	h.items = h.items[:last]
	h.sink(0)
	return first, true
}

// rise brings the thing at a place up to where it belongs.
func (h *Heap[T]) rise(at int) {
	for at > 0 {
		up := (at - 1) / 2
		if !h.ahead(h.items[at], h.items[up]) {
			return
		}
		h.swap(at, up)
		at = up
	}
}

// sink brings the thing at a place down to where it belongs.
func (h *Heap[T]) sink(at int) {
	for {
		first := at
		for down := 2*at + 1; down <= 2*at+2 && down < len(h.items); down++ {
			if h.ahead(h.items[down], h.items[first]) {
				first = down
			}
		}
		if first == at {
			return
		}
		h.swap(at, first)
		at = first
	}
}

func (h *Heap[T]) swap(a, b int) {
	h.items[a], h.items[b] = h.items[b], h.items[a]
}
