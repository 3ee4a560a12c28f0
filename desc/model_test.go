package desc

import (
	"math/big"
	"math/rand"
	"reflect"
	"regexp"
	"slices"
	"strconv"
	"strings"

	"mortise/api"
	"mortise/exp"
)

// grammar is that of the chapter, to the letter.
const grammar = `
desc  = { "record" name "{" { field } "}" }
field = name ":" type [ "at" name [ "shared" ] ] ";"
type  = int [ "is" num | "size" name | "count" name | "offset" name | "crc" name name | "adler" name name ]
      | "bytes" "[" exp "]" | "rest" | "align" num
      | name | name "[" exp "]" | name "[" "]"
      | "pick" exp "{" { num ":" name ";" } [ "else" name ";" ] "}"
int   = "u8" | "u16le" | "u16be" | "u32le" | "u32be" | "u64le" | "u64be"
`

// form is a part of the grammar: a sign or word, what another line tells, or alternatives of sequences.
type form struct {
	kind string // "quoted", "line", "either" (once), "maybe", "many"
	text string
	ways [][]form
}

// readForms reads sequences up to an end, and returns what is left behind it.
func readForms(l []string, end string) ([][]form, []string) {
	ways := [][]form{nil}
	for {
		var f form
		t := l[0]
		l = l[1:]
		switch {
		case t == end:
			return ways, l
		case t == "|":
			ways = append(ways, nil)
			continue
		case t == "[":
			f.kind = "maybe"
			f.ways, l = readForms(l, "]")
		case t == "{":
			f.kind = "many"
			f.ways, l = readForms(l, "}")
		case t[0] == '"':
			f = form{kind: "quoted", text: strings.Trim(t, `"`)}
		default:
			f = form{kind: "line", text: t}
		}
		ways[len(ways)-1] = append(ways[len(ways)-1], f)
	}
}

// lines are the grammar's, by their names.
func lines() map[string]form {
	m := map[string]form{}
	for _, l := range regexp.MustCompile(`(?m)^(\w+)\s*=((?:.*\n)(?:[ ]+\|.*\n)*)`).FindAllStringSubmatch(grammar, -1) {
		ways, _ := readForms(append(strings.Fields(l[2]), "end"), "end")
		m[l[1]] = form{kind: "either", ways: ways}
	}
	return m
}

var quotedForm = regexp.MustCompile(`"(\w+)"`)

// quotedWords are those that are no names.
func quotedWords() []string {
	var l []string
	for _, m := range quotedForm.FindAllStringSubmatch(grammar, -1) {
		l = append(l, m[1])
	}
	return l
}

// matcher holds tokens against the grammar.
type matcher struct {
	lines  map[string]form
	quoted []string
	tokens []string
}

var nameForm = regexp.MustCompile(`^[A-Za-z_][A-Za-z0-9_]{0,15}$`)

// ends are all places up to which a form may reach.
func (m *matcher) ends(f form, at int) []int {
	switch f.kind {
	case "quoted":
		if at < len(m.tokens) && m.tokens[at] == f.text {
			return []int{at + 1}
		}
		return nil
	case "line":
		return m.endsOfLine(f.text, at)
	case "maybe":
		return unique(append(m.endsOfWays(f.ways, at), at))
	case "many":
		all := []int{at}
		for i := 0; i < len(all); i++ {
			for _, end := range m.endsOfWays(f.ways, all[i]) {
				if !slices.Contains(all, end) {
					all = append(all, end)
				}
			}
		}
		return all
	}
	return m.endsOfWays(f.ways, at)
}

func unique(l []int) []int {
	slices.Sort(l)
	return slices.Compact(l)
}

func (m *matcher) endsOfWays(ways [][]form, at int) []int {
	var all []int
	for _, w := range ways {
		here := []int{at}
		for _, f := range w {
			var next []int
			for _, h := range here {
				next = append(next, m.ends(f, h)...)
			}
			here = unique(next)
		}
		all = append(all, here...)
	}
	return unique(all)
}

func (m *matcher) endsOfLine(name string, at int) []int {
	if at >= len(m.tokens) {
		return nil
	}
	t := m.tokens[at]
	switch name {
	case "name":
		if nameForm.MatchString(t) && !slices.Contains(m.quoted, t) {
			return []int{at + 1}
		}
		return nil
	case "num":
		if isDecimal(t[0]) {
			return []int{at + 1}
		}
		return nil
	case "exp":
		var l []int
		for end := at + 1; end <= min(len(m.tokens), at+40); end++ {
			if _, e := exp.Parse(strings.Join(m.tokens[at:end], " ")); e == api.OK {
				l = append(l, end)
			}
		}
		return l
	}
	return m.ends(m.lines[name], at)
}

var tokenForm = regexp.MustCompile(`^(?:0x[0-9a-f]+|[0-9]+|[A-Za-z_][A-Za-z0-9_]*|==|!=|<<|>>|[-<|&+*/%(){}\[\]:;])`)

var wordForm = regexp.MustCompile(`^[A-Za-z0-9_]`)

func isDecimal(c byte) bool { return strings.IndexByte("0123456789", c) >= 0 }

// numberOf is a number's value, which may be too great.
func numberOf(t string) *big.Int {
	base := 10
	if strings.HasPrefix(t, "0x") {
		t, base = t[2:], 16
	}
	n, _ := new(big.Int).SetString(t, base)
	return n
}

// modelTokens are the tokens of a text; false if it does not consist of tokens.
func modelTokens(s string) ([]string, bool) {
	var l []string
	for {
		s = strings.TrimLeft(s, " \t\n")
		if s == "" {
			return l, true
		}
		t := tokenForm.FindString(s)
		s = s[len(t):]
		if t == "" || wordForm.MatchString(t) && wordForm.MatchString(s) {
			return nil, false
		}
		if isDecimal(t[0]) && numberOf(t).Cmp(big.NewInt(1<<62)) > 0 {
			return nil, false
		}
		l = append(l, t)
	}
}

// modelGood is whether a text that exceeds none of the limits is a description.
func modelGood(s string) bool {
	tokens, ok := modelTokens(s)
	if !ok {
		return false
	}
	for i, t := range tokens {
		if i > 0 && tokens[i-1] == "align" && isDecimal(t[0]) && numberOf(t).Cmp(big.NewInt(1<<20)) > 0 {
			return false
		}
	}
	m := &matcher{lines: lines(), quoted: quotedWords(), tokens: tokens}
	return slices.Contains(m.ends(m.lines["desc"], 0), len(tokens))
}

// tokensOf are a field's, where an expression is one of them.
func tokensOf(f api.Field, exps []api.Exp) []string {
	l := append([]string{f.Name, ":"}, tokensOfType(f, exps)...)
	if f.At != "" {
		l = append(l, "at", f.At)
	}
	if f.Shared {
		l = append(l, "shared")
	}
	return append(l, ";")
}

func tokensOfType(f api.Field, exps []api.Exp) []string {
	e := ""
	if f.E >= 0 {
		e, _ = exp.Print(exps, f.E)
	}
	switch f.Kind {
	case api.FInt:
		return tokensOfInt(f)
	case api.FBytes:
		return []string{"bytes", "[", e, "]"}
	case api.FRest:
		return []string{"rest"}
	case api.FRec:
		return []string{f.Rec}
	case api.FArray:
		return []string{f.Rec, "[", e, "]"}
	case api.FFill:
		return []string{f.Rec, "[", "]"}
	case api.FAlign:
		return []string{"align", strconv.Itoa(f.Align)}
	}
	l := []string{"pick", e, "{"}
	for _, c := range f.Cases {
		l = append(l, strconv.FormatUint(c.N, 10), ":", c.Rec, ";")
	}
	if f.Else != "" {
		l = append(l, "else", f.Else, ";")
	}
	return append(l, "}")
}

func tokensOfInt(f api.Field) []string {
	l := []string{"u" + strconv.Itoa(8*f.Width)}
	if f.Width > 1 {
		l[0] += map[bool]string{false: "le", true: "be"}[f.Big]
	}
	if f.Is {
		l = append(l, "is", strconv.FormatUint(f.Const, 10))
	}
	switch f.Auto {
	case api.AutoSize:
		l = append(l, "size", f.A)
	case api.AutoCount:
		l = append(l, "count", f.A)
	case api.AutoAt:
		l = append(l, "offset", f.A)
	case api.AutoCrc:
		l = append(l, "crc", f.A, f.B)
	case api.AutoAdler:
		l = append(l, "adler", f.A, f.B)
	}
	return l
}

// tokensOfDesc are all tokens of a description.
func tokensOfDesc(d api.Desc) []string {
	var l []string
	for _, r := range d.Recs {
		l = append(l, "record", r.Name, "{")
		for _, f := range r.Fields {
			l = append(l, tokensOf(f, d.Exps)...)
		}
		l = append(l, "}")
	}
	return l
}

// modelPrint is Print as the chapter tells it.
func modelPrint(d api.Desc) string {
	plain := strings.NewReplacer(" ;", ";", " :", ":", " [ ", "[", " ]", "]")
	s := ""
	for _, r := range d.Recs {
		s += "record " + r.Name + " {\n"
		for _, f := range r.Fields {
			s += "  " + plain.Replace(strings.Join(tokensOf(f, d.Exps), " ")) + "\n"
		}
		s += "}\n"
	}
	return s
}

// spread joins tokens by any separators, and by none where they do not need one.
func spread(r *rand.Rand, tokens []string) string {
	s := ""
	for _, t := range append(tokens, "") {
		gap := strings.Repeat([]string{" ", "\t", "\n", "\n \t"}[r.Intn(4)], r.Intn(3))
		if gap == "" && s != "" && t != "" && wordForm.MatchString(s[len(s)-1:]) && wordForm.MatchString(t) {
			gap = " "
		}
		s += gap + t
	}
	return s
}

func randomName(r *rand.Rand) string {
	names := []string{"a", "b", "n", "_", "Z9", "u", "u1", "u9le", "rec", "records", "Record", "abcdefghijklmnop", "bytes_", "sizes", "x0", "isat"}
	return names[r.Intn(len(names))]
}

func randomNumber(r *rand.Rand) uint64 {
	return []uint64{0, 1, 7, 255, 256, 1 << 20, 1 << 32, 1<<62 - 1, 1 << 62}[r.Intn(9)]
}

// addExp appends a random expression in the order of its text, and returns its index.
func addExp(r *rand.Rand, l []api.Exp, deep int) ([]api.Exp, int) {
	switch {
	case deep > 0 && r.Intn(2) == 0:
		var left, right int
		l, left = addExp(r, l, deep-1)
		l, right = addExp(r, l, deep-1)
		signs := []string{"==", "!=", "<", "|", "&", "<<", ">>", "+", "-", "*", "/", "%"}
		l = append(l, api.Exp{Op: signs[r.Intn(12)], L: left, R: right})
	case r.Intn(4) == 0: // any name may be in an expression
		words := quotedWords()
		l = append(l, api.Exp{Name: words[r.Intn(len(words))]})
	case r.Intn(2) == 0:
		l = append(l, api.Exp{Name: randomName(r)})
	default:
		l = append(l, api.Exp{N: randomNumber(r)})
	}
	return l, len(l) - 1
}

// randomField is one of any kind; its expression is appended to those of d.
func randomField(r *rand.Rand, d *api.Desc) api.Field {
	f := api.Field{Name: randomName(r), Kind: 1 + r.Intn(8), E: -1}
	if r.Intn(3) == 0 {
		f.At, f.Shared = randomName(r), r.Intn(2) == 0
	}
	if f.Kind == api.FBytes || f.Kind == api.FArray || f.Kind == api.FPick {
		d.Exps, f.E = addExp(r, d.Exps, 3)
	}
	switch f.Kind {
	case api.FInt:
		randomInt(r, &f)
	case api.FRec, api.FArray, api.FFill:
		f.Rec = randomName(r)
	case api.FAlign:
		f.Align = []int{0, 1, 4, 4096, 1<<20 - 1, 1 << 20}[r.Intn(6)]
	case api.FPick:
		for range r.Intn(4) {
			f.Cases = append(f.Cases, api.Case{N: randomNumber(r), Rec: randomName(r)})
		}
		if r.Intn(2) == 0 {
			f.Else = randomName(r)
		}
	}
	return f
}

func randomInt(r *rand.Rand, f *api.Field) {
	f.Width = 1 << r.Intn(4)
	f.Big = f.Width > 1 && r.Intn(2) == 0
	switch f.Auto = r.Intn(7); f.Auto {
	case 6:
		f.Auto, f.Is, f.Const = 0, true, randomNumber(r)
	case api.AutoCrc, api.AutoAdler:
		f.A, f.B = randomName(r), randomName(r)
	case api.AutoSize, api.AutoCount, api.AutoAt:
		f.A = randomName(r)
	}
}

// randomDesc is one that Parse may return.
func randomDesc(r *rand.Rand) api.Desc {
	var d api.Desc
	for range r.Intn(4) {
		rec := api.Rec{Name: randomName(r)}
		for range r.Intn(5) {
			rec.Fields = append(rec.Fields, randomField(r, &d))
		}
		d.Recs = append(d.Recs, rec)
	}
	return d
}

// equal is whether two descriptions are the same, where an empty list may be nil.
func equal(a api.Desc, b api.Desc) bool { return reflect.DeepEqual(copied(a), copied(b)) }

// copied is a copy that shares no memory, and whose empty lists are nil.
func copied(d api.Desc) api.Desc {
	var c api.Desc
	for _, r := range d.Recs {
		var l []api.Field
		for _, f := range r.Fields {
			f.Cases = append([]api.Case(nil), f.Cases...)
			l = append(l, f)
		}
		c.Recs = append(c.Recs, api.Rec{Name: r.Name, Fields: l})
	}
	c.Exps = append([]api.Exp(nil), d.Exps...)
	return c
}
