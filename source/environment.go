package source

// binding is an environment: a name with its value, and the names that were told ahead of it. It is never written to.
type binding struct {
	name   string
	value  computed
	others *binding
}

// with is the environment with one name more, over what was told of that name.
func (b *binding) with(name string, v computed) *binding { return &binding{name, v, b} }

// find is the value of a name, and whether it has one.
func (b *binding) find(name string) (computed, bool) {
	for ; b != nil; b = b.others {
		if b.name == name {
			return b.value, true
		}
	}
	return computed{}, false
}
