package queue

import "cmp"

// numbered is an entry with the number of those that were added before it, which decides among equal ones.
type numbered struct {
	Entry
	number int
}

// compare is Entry's, but no two entries are equal.
func (n numbered) compare(other numbered) int {
	return cmp.Or(n.Entry.compare(other.Entry), cmp.Compare(n.number, other.number))
}

// entries is what container/heap works on.
type entries []numbered

func (e entries) Len() int {
	return len(e)
}

func (e entries) Less(i, j int) bool {
	return e[i].compare(e[j]) < 0
}

func (e entries) Swap(i, j int) {
	e[i], e[j] = e[j], e[i]
}

// Push adds x at the end, as heap.Push asks for it.
func (e *entries) Push(x any) {
	*e = append(*e, x.(numbered))
}

// Pop removes the last entry, as heap.Pop asks for it, and keeps nothing of it.
func (e *entries) Pop() any {
	last := len(*e) - 1
	x := (*e)[last]
	(*e)[last] = numbered{}
	*e = (*e)[:last]
	return x
}
