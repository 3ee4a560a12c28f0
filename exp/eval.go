package exp

import "mortise/api"

// value is that of an element, once it is known.
type value struct {
	known bool
	n     uint64
}

// evaluator keeps the values of elements, as one may be part of so many others that it could not be evaluated anew for each.
type evaluator struct {
	list   []api.Exp
	names  []api.Bind
	values []value
}

// Eval returns the value of the expression with the index i.
func Eval(l []api.Exp, i int, names []api.Bind) (uint64, api.Errno) {
	if e := checkIndex(l, i); e != api.OK {
		return 0, e
	}
	v := &evaluator{list: l, names: names, values: make([]value, i+1)}
	return v.value(i)
}

func (v *evaluator) value(i int) (uint64, api.Errno) {
	if v.values[i].known {
		return v.values[i].n, api.OK
	}
	n, e := v.evaluate(v.list[i])
	if e != api.OK {
		return 0, e
	}
	v.values[i] = value{known: true, n: n}
	return n, api.OK
}

func (v *evaluator) evaluate(x api.Exp) (uint64, api.Errno) {
	switch {
	case x.Name != "":
		return find(v.names, x.Name)
	case x.Op == "":
		return x.N, api.OK
	}
	a, e := v.value(x.L)
	if e != api.OK {
		return 0, e
	}
	b, e := v.value(x.R)
	if e != api.OK {
		return 0, e
	}
	n, ok := apply(x.Op, a, b)
	if !ok {
		return 0, api.ErrForm
	}
	return n, api.OK
}

// find returns the number of the first element with this name.
func find(names []api.Bind, name string) (uint64, api.Errno) {
	for _, b := range names {
		if b.Name != name {
			continue
		}
		if b.N > maxNumber {
			return 0, api.ErrForm
		}
		return b.N, api.OK
	}
	return 0, api.ErrType
}

// apply returns the result of an operator, and whether that is a number. Both a and b are, so their sum does not wrap around.
func apply(op string, a uint64, b uint64) (uint64, bool) {
	switch op {
	case "==":
		return truth(a == b), true
	case "!=":
		return truth(a != b), true
	case "<":
		return truth(a < b), true
	case "|":
		return a | b, a|b <= maxNumber
	case "&":
		return a & b, true
	case "<<":
		return a << b, a <= maxNumber>>b
	case ">>":
		return a >> b, true
	case "+":
		return a + b, a+b <= maxNumber
	case "-":
		return a - b, a >= b
	case "*":
		return a * b, a == 0 || b <= maxNumber/a
	}
	return divide(op, a, b)
}

func divide(op string, a uint64, b uint64) (uint64, bool) {
	switch {
	case b == 0:
		return 0, false
	case op == "/":
		return a / b, true
	}
	return a % b, true
}

func truth(ok bool) uint64 {
	if ok {
		return 1
	}
	return 0
}
