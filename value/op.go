package value

import "brocade/api"

// Op is what an operator makes of two numbers (K3).
func Op(name string, a, b int) (api.Value, bool) {
	does, known := operators()[name]
	if !known {
		return api.Value{}, false
	}
	return does(a, b)
}

// operator is what an operator makes of two numbers, and whether it makes anything of them.
type operator func(a, b int) (api.Value, bool)

func operators() map[string]operator {
	return map[string]operator{
		"+": func(a, b int) (api.Value, bool) { return number(a + b), true },
		"-": func(a, b int) (api.Value, bool) { return number(a - b), true },
		"*": func(a, b int) (api.Value, bool) { return number(a * b), true },
		"/": func(a, b int) (api.Value, bool) {
			if b == 0 {
				return api.Value{}, false
			}
			return number(a / b), true
		},
		"<": func(a, b int) (api.Value, bool) { return truth(a < b), true },
		"=": func(a, b int) (api.Value, bool) { return truth(a == b), true },
	}
}

func number(n int) api.Value { return api.Value{Kind: api.ValInt, N: n} }

func truth(holds bool) api.Value {
	v := api.Value{Kind: api.ValBool}
	if holds {
		v.N = 1
	}
	return v
}
