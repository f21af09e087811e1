package heap_test

import (
	"math/rand"
	"slices"
	"strings"
	"testing"

	"moot/heap"
)

func drain[T any](h *heap.Heap[T]) []T {
	var list []T
	for {
		item, some := h.Pop()
		if !some {
			return list
		}
		list = append(list, item)
	}
}

func TestPopOfNone(t *testing.T) {
	h := heap.New(func(a, b int) bool { return a < b })
	for range 2 {
		if got, some := h.Pop(); got != 0 || some {
			t.Errorf("Pop = %d, %t", got, some)
		}
	}
	h.Push(7)
	if got, some := h.Pop(); got != 7 || !some {
		t.Errorf("Pop = %d, %t", got, some)
	}
	if got, some := h.Pop(); got != 0 || some {
		t.Errorf("Pop = %d, %t", got, some)
	}
}

func TestTheOrderIsTheOneGiven(t *testing.T) {
	words := strings.Fields("it takes clauses one by one and works with those that it took before")
	for name, ahead := range map[string]func(a, b string) bool{
		"letters": func(a, b string) bool { return a < b },
		"back":    func(a, b string) bool { return a > b },
		"length":  func(a, b string) bool { return len(a) < len(b) || len(a) == len(b) && a < b },
	} {
		h := heap.New(ahead)
		for _, w := range words {
			h.Push(w)
		}
		want := slices.Clone(words)
		slices.SortFunc(want, func(a, b string) int {
			if ahead(a, b) {
				return -1
			}
			return 1
		})
		if got := drain(h); !slices.Equal(got, want) {
			t.Errorf("%s: %v, want %v", name, got, want)
		}
	}
}

// Whatever comes and goes, the first one is at hand.
func TestPushAndPop(t *testing.T) {
	r := rand.New(rand.NewSource(1))
	h := heap.New(func(a, b int) bool { return a < b })
	var list []int
	for range 20000 {
		if r.Intn(5) < 3 {
			n := r.Intn(100)
			h.Push(n)
			list = append(list, n)
			continue
		}
		got, some := h.Pop()
		if some != (len(list) > 0) {
			t.Fatalf("Pop of %d = %d, %t", len(list), got, some)
		}
		if !some {
			continue
		}
		at := slices.Index(list, slices.Min(list))
		if got != list[at] {
			t.Fatalf("Pop = %d, want %d", got, list[at])
		}
		list = slices.Delete(list, at, at+1)
	}
	slices.Sort(list)
	if got := drain(h); !slices.Equal(got, list) {
		t.Errorf("what was left: %v, want %v", got, list)
	}
}
