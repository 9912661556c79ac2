package rewrite

// nobody is the name that is never bound, though binders may have it: its variables are free.
const nobody = "_"

// bound tells by which numbers names are bound where one is: of each name the innermost one's last.
type bound map[string][]int

// enter lets names be bound, by the numbers from first on.
func (b bound) enter(first int, names ...string) {
	for n, name := range names {
		if name != nobody {
			b[name] = append(b[name], first+n)
		}
	}
}

// leave lets names be bound as they were ahead of enter.
func (b bound) leave(names ...string) {
	for _, name := range names {
		if name != nobody {
			b[name] = b[name][:len(b[name])-1]
		}
	}
}

// number is that of the innermost one that binds a name; 0 if none does.
func (b bound) number(name string) int {
	numbers := b[name]
	if len(numbers) == 0 {
		return 0
	}
	return numbers[len(numbers)-1]
}
