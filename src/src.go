// Package src is layer 2, unreliable sources: strings that are stored elsewhere, where a read may return less than was requested, or fail, as a script determines.
package src

import (
	"slices"
	"strings"

	"mortise/api"
)

// Source is a string with the script of its next reads, and the spans of its earlier ones.
type Source struct {
	text   string
	script chan api.Step
	reads  []api.Span
}

// New returns a source with this string and these steps.
func New(s string, script []api.Step) (*Source, api.Errno) {
	if len(script) > api.MaxSteps {
		return nil, api.ErrArg
	}
	steps := make(chan api.Step, len(script))
	for _, x := range script {
		if !isStep(x) {
			return nil, api.ErrArg
		}
		steps <- x
	}
	// No step is ever added later.
	close(steps)
	return &Source{text: s, script: steps}, api.OK
}

func isStep(x api.Step) bool {
	switch x.Kind {
	case api.SrcWhole, api.SrcFault:
		return x.N == 0
	case api.SrcShort:
		return x.N >= 0
	}
	return false
}

// next takes the script's first step away. It never waits: an empty script means SrcWhole.
func (s *Source) next() api.Step {
	select {
	case x, ok := <-s.script:
		if ok {
			return x
		}
	default:
	}
	return api.Step{Kind: api.SrcWhole}
}

// ReadAt reads once, as the next step says.
func (s *Source) ReadAt(at int, n int) (string, api.Errno) {
	if s == nil || at < 0 || n < 0 || n > api.MaxRead {
		return "", api.ErrArg
	}
	x := s.next()
	if x.Kind == api.SrcFault {
		return "", api.ErrFault
	}
	part := s.text[min(at, len(s.text)):]
	part = part[:min(n, len(part))]
	e := api.OK
	if x.Kind == api.SrcShort && x.N < len(part) {
		part = part[:x.N]
	} else if len(part) < n {
		e = api.ErrCut
	}
	if part != "" {
		s.reads = append(s.reads, api.Span{Lo: at, Hi: at + len(part)})
	}
	return part, e
}

// Full reads until all n bytes are there, or a read returns an error.
func (s *Source) Full(at int, n int) (string, api.Errno) {
	var all strings.Builder
	for {
		// Only the first read can be refused for its arguments: the later ones ask for less, from within the string on.
		part, e := s.ReadAt(at+all.Len(), n-all.Len())
		if e != api.OK {
			return "", e
		}
		all.WriteString(part)
		if all.Len() == n {
			return all.String(), api.OK
		}
	}
}

// Len returns the length of the string.
func (s *Source) Len() int {
	if s == nil {
		return 0
	}
	return len(s.text)
}

// Left returns the number of steps that are left in the script.
func (s *Source) Left() int {
	if s == nil {
		return 0
	}
	return len(s.script)
}

// Reads returns the spans of all bytes that were read, in the order of the reads.
func (s *Source) Reads() []api.Span {
	if s == nil {
		return nil
	}
	return slices.Clone(s.reads)
}
