package huff

import "container/heap"

// node is a tree: its weight, and its number in the order of making.
type node struct {
	weight uint64
	number int
}

// trees are those that are not merged yet, as a heap.
type trees []node

func (t trees) Len() int { return len(t) }

func (t trees) Less(i, j int) bool {
	if t[i].weight != t[j].weight {
		return t[i].weight < t[j].weight
	}
	return t[i].number < t[j].number
}

func (t trees) Swap(i, j int) { t[i], t[j] = t[j], t[i] }

// Push is called by the heap.
func (t *trees) Push(x any) {
	if n, ok := x.(node); ok {
		*t = append(*t, n)
	}
}

// Pop is called by the heap.
func (t *trees) Pop() any {
	last := len(*t) - 1
	n := (*t)[last]
	*t = (*t)[:last]
	return n
}

// Lengths returns how long the code of each byte is, by their weights.
func Lengths(w [256]uint64) [256]uint8 {
	list := leaves(w)
	parents := merge(list)
	depths := make([]uint8, len(parents))
	// A merge has a greater number than what it merged, so that each depth
	// is there when it is asked for.
	for i := len(parents) - 2; i >= 0; i-- {
		depths[i] = depths[parents[i]] + 1
	}
	if len(list) == 1 {
		depths[0] = 1
	}
	var lengths [256]uint8
	next := 0
	for b, weight := range w {
		if weight > 0 {
			lengths[b] = depths[next]
			next++
		}
	}
	return lengths
}

// leaves returns the trees of single bytes.
func leaves(w [256]uint64) trees {
	var list trees
	for _, weight := range w {
		if weight > 0 {
			list = append(list, node{weight: weight, number: len(list)})
		}
	}
	return list
}

// merge merges trees into one and returns, for each tree that there was, the
// number of the one that it went into (for the last one nothing).
func merge(list trees) []int {
	parents := make([]int, len(list))
	left := make(trees, len(list))
	copy(left, list)
	var rest heap.Interface = &left
	heap.Init(rest)
	for rest.Len() > 1 {
		a, b := lightest(rest), lightest(rest)
		number := len(parents)
		parents[a.number], parents[b.number] = number, number
		parents = append(parents, 0)
		heap.Push(rest, node{weight: sum(a.weight, b.weight), number: number})
	}
	return parents
}

// lightest takes the tree of minimum weight out of a heap.
func lightest(rest heap.Interface) node {
	n, _ := heap.Pop(rest).(node)
	return n
}

// sum adds two weights, but goes no further than a weight can.
func sum(a, b uint64) uint64 {
	if a+b < a {
		return 1<<64 - 1
	}
	return a + b
}
