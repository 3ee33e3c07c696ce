package machine

import "trestle/api"

// chunkSize: how many values a chunk of the stack has room for.
const chunkSize = 256

// stack is a stack of values. It lies in chunks, as it may grow great (each call under way leaves there what it has of its lists): a single slice would be copied whole again and again.
type stack struct {
	chunks []*[chunkSize]api.Val
	height int
}

// place: where the value of that number lies; the lowest one is number 0.
func (s *stack) place(i int) *api.Val { return &s.chunks[i/chunkSize][i%chunkSize] }

func (s *stack) push(list ...api.Val) {
	for _, v := range list {
		if s.height == len(s.chunks)*chunkSize {
			s.chunks = append(s.chunks, new([chunkSize]api.Val))
		}
		*s.place(s.height) = v
		s.height++
	}
}

// deep: what lies at the depth; the top is at depth 0.
func (s *stack) deep(depth int) api.Val { return *s.place(s.height - 1 - depth) }

// drop: the n values on top go.
func (s *stack) drop(n int) { s.height -= n }

func (s *stack) pop() api.Val {
	v := s.deep(0)
	s.drop(1)
	return v
}

// popped: the n values on top, in the order in which they were pushed.
func (s *stack) popped(n int) []api.Val {
	list := make([]api.Val, n)
	for i := range list {
		list[i] = s.deep(n - 1 - i)
	}
	s.drop(n)
	return list
}
