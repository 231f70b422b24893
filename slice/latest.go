package slice

// latest is a heap of indices, the greatest of them first.
type latest []int

func (l latest) Len() int { return len(l) }

func (l latest) Less(i, j int) bool { return l[i] > l[j] }

func (l latest) Swap(i, j int) { l[i], l[j] = l[j], l[i] }

// Push is called by the heap.
func (l *latest) Push(x any) {
	if i, ok := x.(int); ok {
		*l = append(*l, i)
	}
}

// Pop is called by the heap.
func (l *latest) Pop() any {
	end := len(*l) - 1
	i := (*l)[end]
	*l = (*l)[:end]
	return i
}
