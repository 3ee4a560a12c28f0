package desc

import (
	"mortise/api"
	"mortise/exp"
)

// parser is a text, and the expressions that were read from it. Its methods panic with ErrSyntax.
type parser struct {
	text
	exps []api.Exp
}

// Parse returns the description that a text stands for.
func Parse(s string) (api.Desc, api.Errno) {
	if len(s) > api.MaxText {
		return api.Desc{}, api.ErrLimit
	}
	p := &parser{text: text{rest: s}}
	return p.run()
}

// run reads the whole text, or returns the error that ends this.
func (p *parser) run() (d api.Desc, e api.Errno) {
	defer func() {
		if x := recover(); x != nil {
			d, e = api.Desc{}, x.(api.Errno)
		}
	}()
	d.Recs = p.records()
	d.Exps = p.exps
	return d, api.OK
}

func (p *parser) records() []api.Rec {
	var l []api.Rec
	for !p.ended() {
		demand(len(l) < api.MaxRecords && p.has("record"))
		r := api.Rec{Name: p.name()}
		demand(p.sign("{"))
		r.Fields = p.fields()
		l = append(l, r)
	}
	return l
}

func (p *parser) fields() []api.Field {
	var l []api.Field
	for !p.sign("}") {
		demand(len(l) < api.MaxFields)
		l = append(l, p.field())
	}
	return l
}

func (p *parser) field() api.Field {
	name := p.name()
	demand(p.sign(":"))
	f := p.kind()
	f.Name = name
	if p.has("at") {
		f.At = p.name()
		f.Shared = p.has("shared")
	}
	demand(p.sign(";"))
	return f
}

// kind reads the type of a field.
func (p *parser) kind() api.Field {
	for _, i := range integers {
		if p.has(i.word) {
			return p.number(i)
		}
	}
	switch {
	case p.has("bytes"):
		demand(p.sign("["))
		return api.Field{Kind: api.FBytes, E: p.expression("]")}
	case p.has("rest"):
		return api.Field{Kind: api.FRest, E: noExp}
	case p.has("align"):
		n := p.num()
		demand(n <= maxAlign)
		return api.Field{Kind: api.FAlign, E: noExp, Align: int(n)}
	case p.has("pick"):
		return p.pick()
	}
	return p.record()
}

// number reads what may follow the word for integers.
func (p *parser) number(i integer) api.Field {
	f := api.Field{Kind: api.FInt, E: noExp, Width: i.width, Big: i.big}
	if p.has("is") {
		f.Is, f.Const = true, p.num()
		return f
	}
	for _, c := range computeds {
		if p.has(c.word) {
			f.Auto, f.A = c.auto, p.name()
			if c.two {
				f.B = p.name()
			}
			break
		}
	}
	return f
}

// record reads a type that begins with the name of a record: one of them, or many.
func (p *parser) record() api.Field {
	f := api.Field{Kind: api.FRec, E: noExp, Rec: p.name()}
	if !p.sign("[") {
		return f
	}
	if p.sign("]") {
		f.Kind = api.FFill
		return f
	}
	f.Kind, f.E = api.FArray, p.expression("]")
	return f
}

// pick reads what follows the word of a choice among records.
func (p *parser) pick() api.Field {
	f := api.Field{Kind: api.FPick, E: p.expression("{")}
	for !p.sign("}") {
		if p.has("else") {
			f.Else = p.name()
			demand(p.sign(";") && p.sign("}"))
			break
		}
		demand(len(f.Cases) < api.MaxCases)
		f.Cases = append(f.Cases, p.choice())
	}
	return f
}

func (p *parser) choice() api.Case {
	n := p.num()
	demand(p.sign(":"))
	c := api.Case{N: n, Rec: p.name()}
	demand(p.sign(";"))
	return c
}

// expression reads an expression and the sign behind it, which is none of an expression's, and returns its index.
func (p *parser) expression(end string) int {
	l, e := exp.Parse(p.upTo(end))
	before := len(p.exps)
	demand(e == api.OK && len(l) <= api.MaxExps-before)
	for _, x := range l {
		if x.Op != "" {
			x.L += before
			x.R += before
		}
		p.exps = append(p.exps, x)
	}
	return len(p.exps) - 1
}

// atom reads a name or a number: letters and digits are an expression only if they are one of these.
func (p *parser) atom() api.Exp {
	l, e := exp.Parse(p.word())
	demand(e == api.OK)
	return l[0]
}

func (p *parser) name() string {
	x := p.atom()
	demand(x.Name != "" && !isQuoted(x.Name))
	return x.Name
}

func (p *parser) num() uint64 {
	x := p.atom()
	demand(x.Name == "")
	return x.N
}
