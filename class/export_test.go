package class

import "tappet/heap"

// Reason is why a heap is not runnable, for the tests beside the package.
func Reason(h *heap.Heap) error { return inspect(h) }
