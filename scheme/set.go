package scheme

// set is some variables, all of types or all of rows.
type set map[int]struct{}

func setOf(numbers []int) set {
	s := set{}
	s.add(numbers...)
	return s
}

func (s set) add(numbers ...int) {
	for _, n := range numbers {
		s[n] = struct{}{}
	}
}

func (s set) has(n int) bool {
	_, there := s[n]
	return there
}

// without is the numbers of a list that are not in a set.
func without(list []int, s set) []int {
	var out []int
	for _, n := range list {
		if !s.has(n) {
			out = append(out, n)
		}
	}
	return out
}

// once is the numbers of a list, each where it stands first.
func once(list []int) []int {
	met := set{}
	var out []int
	for _, n := range list {
		if !met.has(n) {
			met.add(n)
			out = append(out, n)
		}
	}
	return out
}
