package lazy

import (
	"slices"

	"mortise/api"
)

// stage is a record that a path may lead to, with how many of its numbers are left there.
type stage struct {
	name string
	left int
}

// possible tells whether a path leads from a record to a part, whatever is picked on the way, and however long lists are. So nothing is read for one that leads to none anyhow.
func (r *Reader) possible(name string, path []int) bool {
	return r.passes(name, path, map[stage]int{})
}

// passes tells whether a path may lead on from a record. In seen are the stages from which it does not.
func (r *Reader) passes(name string, path []int, seen map[stage]int) bool {
	if len(path) == 0 {
		return true
	}
	here := stage{name, len(path)}
	if _, ok := seen[here]; ok {
		return false
	}
	seen[here] = 1
	fields := r.find(name).Fields
	if path[0] < 0 || path[0] >= len(fields) {
		return false
	}
	f, rest := fields[path[0]], path[1:]
	if len(rest) == 0 {
		return true
	}
	switch f.Kind {
	case api.FRec:
		return r.passes(f.Rec, rest, seen)
	case api.FArray, api.FFill:
		return rest[0] >= 0 && r.passes(f.Rec, rest[1:], seen)
	case api.FPick:
		return rest[0] == 0 && r.picks(f, rest[1:], seen)
	}
	return false
}

// picks tells whether a path may lead on from one of the records that a field picks from.
func (r *Reader) picks(f api.Field, path []int, seen map[stage]int) bool {
	for _, c := range f.Cases {
		if r.passes(c.Rec, path, seen) {
			return true
		}
	}
	return f.Else != "" && r.passes(f.Else, path, seen)
}

// find returns the record of this name, which a valid description has.
func (r *Reader) find(name string) api.Rec {
	return r.desc.Recs[slices.IndexFunc(r.desc.Recs, func(x api.Rec) bool { return x.Name == name })]
}
