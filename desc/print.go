package desc

import (
	"strconv"

	"mortise/api"
	"mortise/exp"
)

// printer is a text of what a description has. What no text stands for it leaves out, or prints as it is: the text then does not stand for this description.
type printer struct {
	exps []api.Exp
	text []byte
}

// Print returns the text of a description.
func Print(d api.Desc) (string, api.Errno) {
	p := &printer{exps: d.Exps}
	for _, r := range d.Recs {
		p.record(r)
	}
	s := string(p.text)
	if back, e := Parse(s); e != api.OK || !sameDesc(back, d) {
		return "", api.ErrArg
	}
	return s, api.OK
}

// full tells whether the text is too long for a description, so that no more of it is needed.
func (p *printer) full() bool { return len(p.text) > api.MaxText }

func (p *printer) add(parts ...string) {
	for _, s := range parts {
		p.text = append(p.text, s...)
	}
}

func (p *printer) record(r api.Rec) {
	if p.full() {
		return
	}
	p.add("record ", r.Name, " {\n")
	for _, f := range r.Fields {
		p.field(f)
	}
	p.add("}\n")
}

func (p *printer) field(f api.Field) {
	if p.full() {
		return
	}
	p.add("  ", f.Name, ": ")
	p.kind(f)
	if f.At != "" {
		p.add(" at ", f.At)
	}
	if f.Shared {
		p.add(" shared")
	}
	p.add(";\n")
}

func (p *printer) kind(f api.Field) {
	switch f.Kind {
	case api.FInt:
		p.number(f)
	case api.FBytes:
		p.add("bytes[", p.expression(f.E), "]")
	case api.FRest:
		p.add("rest")
	case api.FRec:
		p.add(f.Rec)
	case api.FArray:
		p.add(f.Rec, "[", p.expression(f.E), "]")
	case api.FFill:
		p.add(f.Rec, "[]")
	case api.FPick:
		p.pick(f)
	case api.FAlign:
		p.add("align ", strconv.Itoa(f.Align))
	}
}

func (p *printer) number(f api.Field) {
	for _, i := range integers {
		if i.width == f.Width && i.big == f.Big {
			p.add(i.word)
		}
	}
	if f.Is {
		p.add(" is ", decimal(f.Const))
	}
	for _, c := range computeds {
		if c.auto != f.Auto {
			continue
		}
		p.add(" ", c.word, " ", f.A)
		if c.two {
			p.add(" ", f.B)
		}
	}
}

func (p *printer) pick(f api.Field) {
	p.add("pick ", p.expression(f.E), " {")
	for _, c := range f.Cases {
		if p.full() {
			return
		}
		p.add(" ", decimal(c.N), ": ", c.Rec, ";")
	}
	if f.Else != "" {
		p.add(" else ", f.Else, ";")
	}
	p.add(" }")
}

// expression returns the text of an expression, which is empty if there is none.
func (p *printer) expression(i int) string {
	s, _ := exp.Print(p.exps, i)
	return s
}

func decimal(n uint64) string { return strconv.FormatUint(n, 10) }
