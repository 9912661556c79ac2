package source

import (
	"slices"

	"brocade/api"
)

// stack is frames, the uppermost first. Handlers stand apart from the others, so that all that is above one is taken
// off, and put back, at once. It shares its frames with resumptions: none of them is ever written to.
type stack struct {
	above  *waiting   // those above the uppermost handler
	around *enclosing // that handler; nil, if there is none
}

// waiting is a frame and those below it, down to the next handler.
type waiting struct {
	frame frame
	below *waiting
}

// enclosing is a handler, and what is below it.
type enclosing struct {
	handler *handler
	below   stack
}

func (s *stack) empty() bool { return s.above == nil && s.around == nil }

// push puts a frame on that is not a handler's.
func (s *stack) push(f frame) { s.above = &waiting{f, s.above} }

// enclose puts a handler's frame on.
func (s *stack) enclose(h *handler) { *s = stack{around: &enclosing{h, *s}} }

// pop takes the uppermost frame off; there has to be one.
func (s *stack) pop() frame {
	if top := s.above; top != nil {
		s.above = top.below
		return top.frame
	}
	top := s.around
	*s = top.below
	return top.handler
}

// cut takes off all frames down to the uppermost handler with a clause for an operation, and that, too, and answers
// them with the clause. Without such a handler the clause is nil, and all stays.
func (s *stack) cut(op string) (resumption, *api.Arm) {
	var taken resumption
	for left := *s; left.around != nil; left = left.around.below {
		h := left.around.handler
		taken = append(taken, part{left.above, h})
		if clause := h.clause(op); clause != nil {
			*s = left.around.below
			return taken, clause
		}
	}
	return nil, nil
}

// put puts on the frames that were taken off.
func (s *stack) put(taken resumption) {
	for _, p := range slices.Backward(taken) {
		s.enclose(p.handler)
		s.above = p.above
	}
}
