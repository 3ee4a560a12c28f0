package check

import (
	"mortise/api"
	"mortise/win"
)

func hasKind(s scope, i int) bool {
	k := s.Fields[i].Kind
	return k >= api.FInt && k <= api.FAlign
}

// hasCases tells whether a choice is among few enough cases, with different numbers.
func hasCases(s scope, i int) bool {
	f := s.Fields[i]
	if f.Kind != api.FPick {
		return true
	}
	if len(f.Cases) > api.MaxCases {
		return false
	}
	numbers := map[uint64]int{}
	for k, x := range f.Cases {
		numbers[x.N] = k
	}
	return len(numbers) == len(f.Cases)
}

// leads tells whether a field leads to existing records, but not to the first one.
func (c *checker) leads(s scope, i int) bool {
	for _, t := range targets(s.Fields[i]) {
		if k, ok := c.records[t]; !ok || k == 0 {
			return false
		}
	}
	return true
}

// ends tells whether the chains of records through a field end within the limit.
func (c *checker) ends(s scope, _ int) bool { return c.chain(s.Name) <= api.MaxDeep }

// fits tells whether an integer has a width, which its constant fits into.
func fits(s scope, i int) bool {
	f := s.Fields[i]
	if f.Kind != api.FInt {
		return true
	}
	var n uint64
	if f.Is {
		n = f.Const
	}
	_, e := win.Bytes(n, f.Width, f.Big)
	return e == api.OK && f.Auto >= api.AutoNone && f.Auto <= api.AutoAdler && (!f.Is || f.Auto == api.AutoNone)
}

// evaluates tells whether a field's expression can be evaluated with the integers before it.
func (c *checker) evaluates(s scope, i int) bool {
	f := s.Fields[i]
	if f.Kind != api.FBytes && f.Kind != api.FArray && f.Kind != api.FPick {
		return true
	}
	if f.E < 0 || f.E >= len(c.Exps) {
		return false
	}
	used := make([]bool, f.E+1)
	used[f.E] = true
	// The parts of an operator precede it, so whatever uses an element was met before it.
	for k := f.E; k >= 0; k-- {
		x := c.Exps[k]
		if !used[k] {
			continue
		}
		if x.Op != "" {
			used[x.L], used[x.R] = true, true
		}
		if x.Name != "" && !s.knows(x.Name, i) {
			return false
		}
	}
	return true
}

// knows tells whether a name is that of an integer which a field may use.
func (s scope) knows(name string, i int) bool {
	k, ok := s.fields[name]
	return ok && k < i && s.Fields[k].Kind == api.FInt && !isSum(s.Fields[k])
}

func aligns(s scope, i int) bool {
	f := s.Fields[i]
	return f.Kind != api.FAlign || f.Align >= 1 && f.Align <= api.MaxAlign
}

// repeats tells whether a record that may be repeated has an integer, so that each repetition takes bytes.
func (c *checker) repeats(s scope, i int) bool {
	f := s.Fields[i]
	if f.Kind != api.FArray && f.Kind != api.FFill {
		return true
	}
	for _, x := range c.Recs[c.records[f.Rec]].Fields {
		if x.Kind == api.FInt {
			return true
		}
	}
	return false
}

// closes tells whether an open field is the last one of the whole, and has no field beside it that stands elsewhere.
func (c *checker) closes(s scope, i int) bool {
	f := s.Fields[i]
	if isOpen(f) && (s.index != 0 || i != len(s.Fields)-1) {
		return false
	}
	return !c.open || f.At == ""
}

// stands tells whether a field stands behind the one before it, or where an integer says.
func stands(s scope, i int) bool {
	f := s.Fields[i]
	if f.At == "" {
		return !f.Shared
	}
	switch f.Kind {
	case api.FBytes, api.FRec, api.FArray, api.FPick:
		k, ok := s.fields[f.At]
		return ok && k < i && s.Fields[k].Kind == api.FInt && s.Fields[k].Auto == api.AutoAt && s.Fields[k].A == f.Name
	}
	return false
}

// computes tells whether an integer can be computed of the fields that it names.
func computes(s scope, i int) bool {
	f := s.Fields[i]
	if f.Kind != api.FInt || f.Auto == api.AutoNone {
		return true
	}
	k, ok := s.fields[f.A]
	if !ok {
		return false
	}
	a := s.Fields[k]
	switch f.Auto {
	case api.AutoSize:
		return a.Kind != api.FInt && a.Kind != api.FAlign
	case api.AutoCount:
		return a.Kind == api.FArray || a.Kind == api.FFill
	case api.AutoAt:
		return a.At == f.Name
	}
	return covers(s, i, k)
}

// covers tells whether a checksum can be computed of the fields from one to another.
func covers(s scope, i int, from int) bool {
	f := s.Fields[i]
	to, ok := s.fields[f.B]
	if !ok || to < from || f.Width != 4 || s.Fields[from].At != "" || s.Fields[to].At != "" {
		return false
	}
	for k := from; k <= to; k++ {
		if k == i || isSum(s.Fields[k]) {
			return false
		}
	}
	return true
}
