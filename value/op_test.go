package value_test

import (
	"math"
	"math/big"
	"testing"

	"brocade/api"
	"brocade/value"
)

// slowOp is what an operator makes of two numbers, another way than package value: of numbers of any size, cut off at the top.
func slowOp(name string, a, b int) (api.Value, bool) {
	x, y, out := big.NewInt(int64(a)), big.NewInt(int64(b)), new(big.Int)
	switch name {
	case "+":
		out.Add(x, y)
	case "-":
		out.Sub(x, y)
	case "*":
		out.Mul(x, y)
	case "/":
		if b == 0 {
			return api.Value{}, false
		}
		out.Quo(x, y)
	case "<":
		return truth(count(x.Cmp(y) < 0)), true
	case "=":
		return truth(count(x.Cmp(y) == 0)), true
	default:
		return api.Value{}, false
	}
	low := new(big.Int).And(out, new(big.Int).SetUint64(math.MaxUint64)) // of a number below 0 as if its bits went on for ever
	return number(int(int64(low.Uint64()))), true
}

func wantOp(t *testing.T, name string, a, b int, v api.Value, there bool) {
	t.Helper()
	if got, ok := value.Op(name, a, b); ok != there || !slowSame(got, v) || got.Kids != nil || value.First(got) != there {
		t.Errorf("%d %s %d: %+v and %v, not %+v and %v", a, name, b, got, ok, v, there)
	}
}

// TestOp has numbers that are told by the document, or near an edge.
func TestOp(t *testing.T) {
	least, most := math.MinInt, math.MaxInt
	for _, x := range []struct {
		name    string
		a, b, n int
	}{
		{"+", 1, 2, 3}, {"+", -1, 1, 0}, {"+", most, 1, least}, {"+", least, -1, most}, {"+", most, most, -2}, {"+", least, least, 0},
		{"-", 1, 2, -1}, {"-", 5, -5, 10}, {"-", least, 1, most}, {"-", most, -1, least}, {"-", 0, least, least},
		{"*", 6, 7, 42}, {"*", -6, 7, -42}, {"*", -6, -7, 42}, {"*", 0, least, 0}, {"*", most, 2, -2}, {"*", least, -1, least}, {"*", 1 << 32, 1 << 31, least}, {"*", 1 << 32, 1 << 32, 0}, {"*", most, most, 1},
		{"/", 7, 2, 3}, {"/", -7, 2, -3}, {"/", 7, -2, -3}, {"/", -7, -2, 3}, {"/", 1, 2, 0}, {"/", -1, 2, 0}, {"/", 0, -3, 0}, {"/", least, -1, least}, {"/", least, 1, least}, {"/", most, -1, -most}, {"/", least, most, -1}, {"/", most, least, 0}, {"/", least, 2, -1 << 62},
	} {
		wantOp(t, x.name, x.a, x.b, number(x.n), true)
	}
	for _, x := range []struct{ a, b, less, same int }{{0, 0, 0, 1}, {0, 1, 1, 0}, {1, 0, 0, 0}, {-1, 0, 1, 0}, {-2, -1, 1, 0}, {least, most, 1, 0}, {most, least, 0, 0}, {least, least, 0, 1}, {most, most, 0, 1}, {least, 0, 1, 0}, {5, -5, 0, 0}} {
		wantOp(t, "<", x.a, x.b, truth(x.less), true)
		wantOp(t, "=", x.a, x.b, truth(x.same), true)
	}
	for _, a := range []int{0, 1, -1, least, most} {
		wantOp(t, "/", a, 0, api.Value{}, false)
	}
}

// TestOpEdges has all operators, of numbers near all powers of two, and of made-up ones.
func TestOpEdges(t *testing.T) {
	var numbers []int
	for bit := range 64 {
		n := 1 << bit
		numbers = append(numbers, n-1, n, n+1, -n)
	}
	luck := dice(21)
	for range 100 {
		numbers = append(numbers, luck.under(1<<24)<<40^luck.under(1<<24)<<20^luck.under(1<<24), luck.under(2001)-1000)
	}
	for _, a := range numbers {
		for _, b := range numbers {
			for _, name := range []string{"+", "-", "*", "/", "<", "="} {
				v, there := slowOp(name, a, b)
				wantOp(t, name, a, b, v, there)
			}
		}
	}
}

// TestOpNames: of any other name there is nothing.
func TestOpNames(t *testing.T) {
	for _, name := range []string{"", " ", "print", "read", "ref", "!", ":=", "==", "<=", ">", ">=", "%", "++", "+ ", " +", "+-*/<=", "−", "+\x00", "\xff", "div", "add", "&", "|", "^", "<<", "A", "->", ":"} {
		for _, a := range []int{0, 1, -7, math.MinInt} {
			for _, b := range []int{0, 1, 3} {
				wantOp(t, name, a, b, api.Value{}, false)
			}
		}
	}
	for c := range 256 {
		name := string([]byte{byte(c)})
		v, there := slowOp(name, 9, 4)
		wantOp(t, name, 9, 4, v, there)
	}
}
