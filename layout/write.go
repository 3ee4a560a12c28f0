package layout

import (
	"mortise/api"
	"mortise/exp"
	"mortise/sums"
	"mortise/win"
)

// row is a record that is placed: a box for each field.
type row []box

// write returns the bytes of everything that was placed.
func (p *plan) write() (string, api.Errno) {
	b := make([]byte, p.end)
	for _, r := range p.rows {
		if !r.write(b) {
			return "", api.ErrField
		}
	}
	for _, r := range p.rows {
		if !p.agrees(r) {
			return "", api.ErrType
		}
	}
	// Whatever a checksum covers is complete by then, as the rows inside precede it.
	for _, r := range p.rows {
		r.sum(b)
	}
	return string(b), api.OK
}

// find returns the box of the field of this name, which a valid description has.
func (r row) find(name string) *box {
	for i := range r {
		if r[i].field.Name == name {
			return &r[i]
		}
	}
	return nil
}

// write fills in the bytes of a row's fields, but for checksums; false if a number does not fit.
func (r row) write(b []byte) bool {
	for i := range r {
		x := &r[i]
		switch x.field.Kind {
		case api.FInt:
			x.number = r.number(x)
			if x.encode(b) != api.OK {
				return false
			}
		case api.FBytes, api.FRest:
			copy(b[x.Lo:x.Hi], x.node.S)
		}
	}
	return true
}

// encode fills in the bytes of an integer.
func (x *box) encode(b []byte) api.Errno {
	s, e := win.Bytes(x.number, x.field.Width, x.field.Big)
	copy(b[x.Lo:x.Hi], s)
	return e
}

// number returns that of an integer; 0 if it is a checksum, which is not known yet.
func (r row) number(x *box) uint64 {
	switch x.field.Auto {
	case api.AutoNone:
		return x.node.N
	case api.AutoSize:
		a := r.find(x.field.A)
		return uint64(a.Hi - a.Lo)
	case api.AutoCount:
		return uint64(len(r.find(x.field.A).node.L))
	case api.AutoAt:
		return uint64(r.find(x.field.A).Lo)
	}
	return 0
}

func isSum(f *api.Field) bool {
	return f.Kind == api.FInt && (f.Auto == api.AutoCrc || f.Auto == api.AutoAdler)
}

// agrees tells whether a row's constants and lengths are as the description says.
func (p *plan) agrees(r row) bool {
	var ints []api.Bind
	for i := range r {
		x := &r[i]
		ok := true
		switch f := x.field; f.Kind {
		case api.FInt:
			ok = !f.Is || x.number == f.Const
			if !isSum(f) {
				ints = append(ints, api.Bind{Name: f.Name, N: x.number})
			}
		case api.FBytes:
			ok = p.evaluates(f, ints, uint64(len(x.node.S)))
		case api.FArray:
			ok = p.evaluates(f, ints, uint64(len(x.node.L)))
		case api.FPick:
			ok = p.evaluates(f, ints, x.node.N)
		}
		if !ok {
			return false
		}
	}
	return true
}

// evaluates tells whether a field's expression has this value.
func (p *plan) evaluates(f *api.Field, ints []api.Bind, n uint64) bool {
	m, e := exp.Eval(p.Exps, f.E, ints)
	return e == api.OK && m == n
}

// sum fills in a row's checksums.
func (r row) sum(b []byte) {
	for i := range r {
		x := &r[i]
		if !isSum(x.field) {
			continue
		}
		covered := string(b[r.find(x.field.A).Lo:r.find(x.field.B).Hi])
		sum := sums.Adler
		if x.field.Auto == api.AutoCrc {
			sum = sums.Crc
		}
		x.number = uint64(sum(covered))
		x.encode(b)
	}
}
