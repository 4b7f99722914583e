package heaps

// line is what package container/heap asks for: the things as they stand in the heap.
type line[T any] struct {
	list    []T
	compare func(a, b T) int
}

func (l *line[T]) Len() int {
	return len(l.list)
}

func (l *line[T]) Less(i, j int) bool {
	return l.compare(l.list[i], l.list[j]) < 0
}

func (l *line[T]) Swap(i, j int) {
	l.list[i], l.list[j] = l.list[j], l.list[i]
}

func (l *line[T]) Push(x any) {
	l.list = append(l.list, x.(T))
}

func (l *line[T]) Pop() any {
	end := len(l.list) - 1
	last := l.list[end]
	// What waits no more must not be kept in the list's spare room.
	var none T
	l.list[end] = none
	l.list = l.list[:end]
	return last
}
