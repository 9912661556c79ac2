package rewrite

// steps are what is still to do, the next one last: so terms may be as deep as they like.
type steps []func()

// later adds a step, ahead of those that were added before.
func (s *steps) later(step func()) { *s = append(*s, step) }

// run does all steps, and those that they add.
func (s *steps) run() {
	for len(*s) > 0 {
		next := len(*s) - 1
		step := (*s)[next]
		*s = (*s)[:next]
		step()
	}
}
