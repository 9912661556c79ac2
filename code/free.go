package code

import "brocade/api"

// names are some names, each once.
type names map[string]struct{}

// finder finds which names stand free in pieces.
type finder struct {
	survey
	known map[*api.Code]names // of those that stand in several places
}

// free is the names that stand free in the code itself.
func (f finder) free(c *api.Code) names {
	for _, piece := range f.rising {
		if f.shared(piece) {
			f.known[piece] = f.within(piece)
		}
	}
	return f.within(c)
}

// within is the names that stand free in a piece; of what stands in several places within it they are known.
func (f finder) within(c *api.Code) names {
	s := search{finder: f, free: names{}, bound: map[string]int{}}
	s.alone(c)
	for len(s.todo) > 0 {
		last := len(s.todo) - 1
		next := s.todo[last]
		s.todo = s.todo[:last]
		s.place(next)
	}
	return s.free
}

// search goes from place to place, and tells what stands free there.
type search struct {
	finder
	free  names
	bound map[string]int // how many bind a name where it is
	todo  []place
}

// place is a piece where some more names are bound; or, without a piece, where they are not bound any more.
type place struct {
	piece *api.Code
	names []string
}

func (s *search) place(p place) {
	if p.piece == nil {
		s.bind(-1, p.names...)
		return
	}
	s.bind(1, p.names...)
	s.todo = append(s.todo, place{names: p.names})
	if !s.shared(p.piece) {
		s.alone(p.piece)
		return
	}
	for name := range s.known[p.piece] {
		s.found(name)
	}
}

// alone is a piece in whatever places it stands.
func (s *search) alone(c *api.Code) {
	if c.Kind == api.CodeVar {
		s.found(c.Name)
	}
	for n, part := range parts(c) {
		s.todo = append(s.todo, place{part, binds(c, n)})
	}
}

// bind lets one more, or one less, bind some names.
func (s *search) bind(more int, names ...string) {
	for _, name := range names {
		s.bound[name] += more
	}
}

func (s *search) found(name string) {
	if s.bound[name] == 0 {
		s.free[name] = struct{}{}
	}
}
