package source

import "brocade/api"

// closure is a function of the program with its environment.
type closure struct {
	own   string // the name that rec gave it; empty, if it has none
	param string
	body  *api.Term
	env   *binding
}

func (c *closure) call(m *machine, v computed) {
	env := c.env
	if c.own != "" {
		env = env.with(c.own, fun(c))
	}
	m.at(c.body, env.with(c.param, v))
}

// resumption is frames, the uppermost ones first, down to a handler.
type resumption []part

// part is a handler with the frames above it, up to the next handler.
type part struct {
	above   *waiting
	handler *handler
}

func (r resumption) call(m *machine, v computed) {
	m.put(r)
	m.answer(v)
}
