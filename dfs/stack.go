package dfs

// stack: what has been put off, the last of it on top. A way down a forest may have as many vertices as the graph: it is kept here, since calls within calls would go as deep.
type stack[T any] struct {
	items []T
}

func (s *stack[T]) empty() bool { return len(s.items) == 0 }

func (s *stack[T]) push(item T) { s.items = append(s.items, item) }

// top and pop: of a stack that isn't empty.
func (s *stack[T]) top() T { return s.items[len(s.items)-1] }

func (s *stack[T]) pop() T {
	item := s.top()
	s.items = s.items[:len(s.items)-1]
	return item
}
