package exp

import (
	"strconv"
	"strings"

	"mortise/api"
)

const separators = " \t\n"

// parser is what is left of a text, and the list of what it has read. Its methods panic with ErrSyntax.
type parser struct {
	rest string
	deep int // how many parentheses are open
	list []api.Exp
}

// Parse returns the list of an expression, which is its last element.
func Parse(s string) ([]api.Exp, api.Errno) {
	if len(s) > api.MaxText {
		return nil, api.ErrLimit
	}
	p := &parser{rest: s}
	if e := p.run(); e != api.OK {
		return nil, e
	}
	return p.list, api.OK
}

// run reads the whole text, and returns the error that ends this.
func (p *parser) run() (e api.Errno) {
	defer func() {
		if x := recover(); x != nil {
			e = x.(api.Errno)
		}
	}()
	p.expression(lowest)
	demand(p.rest == "")
	return api.OK
}

// demand panics unless the text is as it must be.
func demand(ok bool) {
	if !ok {
		panic(api.ErrSyntax)
	}
}

func (p *parser) skip() { p.rest = strings.TrimLeft(p.rest, separators) }

// add appends an element, and returns its index.
func (p *parser) add(x api.Exp) int {
	demand(len(p.list) < api.MaxExps)
	p.list = append(p.list, x)
	return len(p.list) - 1
}

// expression reads operands as long as the operators between them have at least this level, and the separators behind them. It returns the index of the whole.
func (p *parser) expression(least int) int {
	left := p.operand()
	for {
		o := p.operator()
		if o.level < least {
			return left
		}
		p.rest = p.rest[len(o.sign):]
		// The right operand ends before an operator of the same level, so that this one is applied first.
		right := p.expression(o.level + 1)
		left = p.add(api.Exp{Op: o.sign, L: left, R: right})
	}
}

// operator returns the operator that comes next, which is not yet taken; the zero one if there is none.
func (p *parser) operator() operator {
	p.skip()
	var next operator
	for _, o := range operators {
		if strings.HasPrefix(p.rest, o.sign) && len(o.sign) > len(next.sign) {
			next = o
		}
	}
	return next
}

// operand reads a number, a name, or an expression in parentheses, and returns its index.
func (p *parser) operand() int {
	p.skip()
	inside, ok := strings.CutPrefix(p.rest, "(")
	if !ok {
		return p.add(p.leaf())
	}
	p.deep++
	demand(p.deep <= api.MaxNest)
	p.rest = inside
	i := p.expression(lowest)
	behind, ok := strings.CutPrefix(p.rest, ")")
	demand(ok)
	p.rest = behind
	p.deep--
	return i
}

// leaf reads a number or a name. Letters and digits that follow each other are one of these, or none.
func (p *parser) leaf() api.Exp {
	n := wordLength(p.rest)
	word := p.rest[:n]
	p.rest = p.rest[n:]
	if isName(word) {
		// A name of its own does not keep the text alive.
		return api.Exp{Name: strings.Clone(word)}
	}
	return api.Exp{N: number(word)}
}

func number(word string) uint64 {
	digits, base := word, 10
	if hexadecimal, ok := strings.CutPrefix(word, "0x"); ok {
		digits, base = hexadecimal, 16
	}
	n, err := strconv.ParseUint(digits, base, 64)
	demand(err == nil && n <= maxNumber)
	demand(!strings.ContainsAny(digits, "ABCDEF")) // which ParseUint would take
	return n
}
