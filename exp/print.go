package exp

import (
	"strconv"

	"mortise/api"
)

type printer struct {
	list []api.Exp
	text []byte
}

// Print returns the text of the expression with the index i.
func Print(l []api.Exp, i int) (string, api.Errno) {
	if e := checkIndex(l, i); e != api.OK {
		return "", e
	}
	p := &printer{list: l}
	p.expression(i)
	if p.full() {
		return "", api.ErrLimit
	}
	return string(p.text), api.OK
}

func (p *printer) full() bool { return len(p.text) > api.MaxText }

func (p *printer) expression(i int) {
	// An element may be part of so many others that the whole text could never be written.
	if p.full() {
		return
	}
	x := p.list[i]
	switch {
	case x.Op != "":
		level := levelOf(x.Op)
		p.part(x.L, level)
		p.text = append(p.text, " "+x.Op+" "...)
		// On the right, an operator of the same level would be applied later.
		p.part(x.R, level+1)
	case x.Name != "":
		p.text = append(p.text, x.Name...)
	default:
		p.text = strconv.AppendUint(p.text, x.N, 10)
	}
}

// part prints an operand, in parentheses if it is an operator below the level.
func (p *printer) part(i int, least int) {
	if op := p.list[i].Op; op == "" || levelOf(op) >= least {
		p.expression(i)
		return
	}
	p.text = append(p.text, '(')
	p.expression(i)
	p.text = append(p.text, ')')
}
