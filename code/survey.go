package code

import (
	"math"

	"brocade/api"
)

// survey is all pieces of code, each once: code may have lists together, or stand within itself, and is not gone
// through again and again for that.
type survey struct {
	rising []*api.Code // each behind all that is within it, the code itself last
	met    map[*api.Code]met
	round  bool // some stand within themselves
}

// met is how a piece was met.
type met struct {
	places int
	behind bool // all that is within it is surveyed
}

// visit is a piece that is to be surveyed, or, once all is that is within it, to be left.
type visit struct {
	piece *api.Code
	leave bool
}

func newSurvey(c *api.Code) survey {
	s := survey{met: map[*api.Code]met{}}
	todo := []visit{{piece: c}}
	for len(todo) > 0 {
		last := len(todo) - 1
		v := todo[last]
		todo = todo[:last]
		if v.leave {
			s.leave(v.piece)
			continue
		}
		if s.again(v.piece) {
			continue
		}
		todo = append(todo, visit{v.piece, true})
		for _, part := range parts(v.piece) {
			todo = append(todo, visit{piece: part})
		}
	}
	return s
}

// again tells whether a piece was met ahead; now it is.
func (s *survey) again(c *api.Code) bool {
	m := s.met[c]
	m.places++
	s.met[c] = m
	if m.places > 1 && !m.behind {
		s.round = true
	}
	return m.places > 1
}

func (s *survey) leave(c *api.Code) {
	s.met[c] = met{s.met[c].places, true}
	s.rising = append(s.rising, c)
}

// shared tells whether a piece stands in several places.
func (s survey) shared(c *api.Code) bool { return s.met[c].places > 1 }

// sum is what some number that each piece has makes of all pieces, of each one as often as it stands there; if that is
// more than there are numbers, the greatest one.
func (s survey) sum(own func(c *api.Code) int) int {
	if s.round {
		return math.MaxInt
	}
	sums := make(map[*api.Code]int, len(s.rising))
	sum := 0
	for _, piece := range s.rising {
		sum = own(piece)
		for _, part := range parts(piece) {
			sum += min(sums[part], math.MaxInt-sum)
		}
		sums[piece] = sum
	}
	return sum
}
