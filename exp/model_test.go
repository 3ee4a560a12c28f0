package exp

import (
	"math/big"
	"math/rand"
	"regexp"
	"strconv"
	"strings"

	"mortise/api"
)

const most = 1 << 62

// rows are the operators of each level, from the lowest one to the highest one.
var rows = []string{"== != <", "|", "&", "<< >>", "+ -", "* / %"}

// rowOf is the index of an operator's row, or -1.
func rowOf(sign string) int {
	for i, r := range rows {
		for _, o := range strings.Fields(r) {
			if o == sign {
				return i
			}
		}
	}
	return -1
}

func allSigns() []string { return strings.Fields(strings.Join(rows, " ")) }

// tree is an expression: an operator of two trees, or a number or a name.
type tree struct {
	sign string
	leaf api.Exp
	l, r *tree
}

// numberOf is a number's value, which may be too great.
func numberOf(t string) *big.Int {
	base := 10
	if strings.HasPrefix(t, "0x") {
		t, base = t[2:], 16
	}
	n, _ := new(big.Int).SetString(t, base)
	return n
}

func isDecimal(c byte) bool { return strings.IndexByte("0123456789", c) >= 0 }

func leafTree(t string) *tree {
	if isDecimal(t[0]) {
		return &tree{leaf: api.Exp{N: numberOf(t).Uint64()}}
	}
	return &tree{leaf: api.Exp{Name: t}}
}

// list is the tree's parts, each behind its own parts.
func (t *tree) list() []api.Exp { return t.after(nil) }

func (t *tree) after(l []api.Exp) []api.Exp {
	if t.sign == "" {
		return append(l, t.leaf)
	}
	l = t.l.after(l)
	left := len(l) - 1
	l = t.r.after(l)
	return append(l, api.Exp{Op: t.sign, L: left, R: len(l) - 1})
}

// treeOf is that of an element of a list.
func treeOf(l []api.Exp, i int) *tree {
	x := l[i]
	if x.Op == "" {
		return &tree{leaf: x}
	}
	return &tree{sign: x.Op, l: treeOf(l, x.L), r: treeOf(l, x.R)}
}

// equal holds two trees against each other.
func (t *tree) equal(o *tree) bool {
	if t == nil || o == nil {
		return t == o
	}
	return t.sign == o.sign && t.leaf == o.leaf && t.l.equal(o.l) && t.r.equal(o.r)
}

var tokenForm = regexp.MustCompile(`^(?:0x[0-9a-f]+|[0-9]+|[A-Za-z_][A-Za-z0-9_]*|==|!=|<<|>>|[-<|&+*/%()])`)

var wordForm = regexp.MustCompile(`^[A-Za-z0-9_]`)

// modelTokens are the tokens of a text; false if it does not consist of tokens.
func modelTokens(s string) ([]string, bool) {
	var l []string
	for {
		s = strings.TrimLeft(s, " \t\n")
		if s == "" {
			return l, true
		}
		t := tokenForm.FindString(s)
		s = s[len(t):]
		if t == "" || wordForm.MatchString(t) && (wordForm.MatchString(s) || !goodLeaf(t)) {
			return nil, false
		}
		l = append(l, t)
	}
}

// goodLeaf is whether a word is not too long for a name, or too great for a number.
func goodLeaf(t string) bool {
	if isDecimal(t[0]) {
		return numberOf(t).Cmp(big.NewInt(most)) <= 0
	}
	return len(t) <= 16
}

// modelTree reads tokens by their last operator that is the lowest one outside of parentheses; nil if they are no expression.
func modelTree(tokens []string, deep int) *tree {
	open, at := 0, -1
	for i, t := range tokens {
		switch {
		case t == "(":
			open++
		case t == ")":
			open--
		case open == 0 && rowOf(t) >= 0 && (at < 0 || rowOf(t) <= rowOf(tokens[at])):
			at = i
		}
		if open < 0 {
			return nil
		}
	}
	switch n := len(tokens); {
	case n == 0 || open > 0:
		return nil
	case at >= 0:
		l, r := modelTree(tokens[:at], deep), modelTree(tokens[at+1:], deep)
		if l == nil || r == nil {
			return nil
		}
		return &tree{sign: tokens[at], l: l, r: r}
	case n == 1 && wordForm.MatchString(tokens[0]):
		return leafTree(tokens[0])
	case tokens[0] == "(" && tokens[n-1] == ")" && deep < 20:
		return modelTree(tokens[1:n-1], deep+1)
	}
	return nil
}

// modelParse is Parse as the chapter tells it.
func modelParse(s string) ([]api.Exp, api.Errno) {
	if len(s) > 20000 {
		return nil, api.ErrLimit
	}
	tokens, ok := modelTokens(s)
	t := modelTree(tokens, 0)
	if !ok || t == nil {
		return nil, api.ErrSyntax
	}
	l := t.list()
	if len(l) > 400 {
		return nil, api.ErrSyntax
	}
	return l, api.OK
}

// modelPrint puts parentheses around those operands that are read otherwise without them.
func modelPrint(t *tree) string {
	if t.sign == "" {
		if t.leaf.Name != "" {
			return t.leaf.Name
		}
		return strconv.FormatUint(t.leaf.N, 10)
	}
	l, r := modelPrint(t.l), modelPrint(t.r)
	if bare := readAs(l + " " + t.sign + " 0"); bare.sign != t.sign || !bare.l.equal(t.l) {
		l = "(" + l + ")"
	}
	if bare := readAs("0 " + t.sign + " " + r); bare.sign != t.sign || !bare.r.equal(t.r) {
		r = "(" + r + ")"
	}
	return l + " " + t.sign + " " + r
}

func readAs(s string) *tree {
	tokens, _ := modelTokens(s)
	return modelTree(tokens, -1000)
}

// modelEval is Eval as the chapter tells it, with numbers that have no bounds.
func modelEval(t *tree, names []api.Bind) (*big.Int, api.Errno) {
	if t.sign == "" {
		return modelLeaf(t.leaf, names)
	}
	a, e := modelEval(t.l, names)
	if e != api.OK {
		return nil, e
	}
	b, e := modelEval(t.r, names)
	if e != api.OK {
		return nil, e
	}
	n := modelApply(t.sign, a, b)
	if n == nil || n.Sign() < 0 || n.Cmp(big.NewInt(most)) > 0 {
		return nil, api.ErrForm
	}
	return n, api.OK
}

func modelLeaf(x api.Exp, names []api.Bind) (*big.Int, api.Errno) {
	if x.Name == "" {
		return new(big.Int).SetUint64(x.N), api.OK
	}
	for _, b := range names {
		if b.Name == x.Name && b.N > most {
			return nil, api.ErrForm
		}
		if b.Name == x.Name {
			return new(big.Int).SetUint64(b.N), api.OK
		}
	}
	return nil, api.ErrType
}

// modelApply returns nil if there is no result.
func modelApply(sign string, a *big.Int, b *big.Int) *big.Int {
	n, one := new(big.Int), big.NewInt(1)
	if (sign == "/" || sign == "%") && b.Sign() == 0 {
		return nil
	}
	// Shifting by more than this leaves nothing of a number, or is more than a number.
	far := uint(100)
	if b.Cmp(big.NewInt(100)) < 0 {
		far = uint(b.Uint64())
	}
	switch sign {
	case "+":
		return n.Add(a, b)
	case "-":
		return n.Sub(a, b)
	case "*":
		return n.Mul(a, b)
	case "/":
		return n.Div(a, b)
	case "%":
		return n.Mod(a, b)
	case "<<":
		return n.Mul(a, n.Lsh(one, far))
	case ">>":
		return n.Div(a, n.Lsh(one, far))
	case "&":
		return n.And(a, b)
	case "|":
		return n.Or(a, b)
	}
	c := a.Cmp(b)
	if sign == "==" && c == 0 || sign == "!=" && c != 0 || sign == "<" && c < 0 {
		return one
	}
	return n
}

// randomLeaf is a number or a name, of all sizes.
func randomLeaf(r *rand.Rand) api.Exp {
	switch r.Intn(4) {
	case 0:
		return api.Exp{Name: []string{"a", "b", "n", "_", "Zz9", "abcdefghijklmnop"}[r.Intn(6)]}
	case 1:
		return api.Exp{N: uint64(r.Intn(70))}
	case 2:
		return api.Exp{N: []uint64{0, 1, 2, 62, 63, 64, 1 << 31, 1<<31 + 1, most / 3, most/2 - 1, most / 2, most - 1, most}[r.Intn(13)]}
	}
	return api.Exp{N: uint64(r.Int63()) >> r.Intn(62) & (most - 1)}
}

// randomTree has so many operators.
func randomTree(r *rand.Rand, n int) *tree {
	if n == 0 {
		return &tree{leaf: randomLeaf(r)}
	}
	left := r.Intn(n)
	signs := allSigns()
	return &tree{sign: signs[r.Intn(len(signs))], l: randomTree(r, left), r: randomTree(r, n-1-left)}
}

// full is a text with parentheses around all parts, and any separators.
func full(r *rand.Rand, t *tree) string {
	gap := func() string { return strings.Repeat([]string{" ", "\t", "\n", " \n\t"}[r.Intn(4)], r.Intn(3)) }
	if t.sign == "" {
		return gap() + "(" + gap() + modelPrint(t) + gap() + ")" + gap()
	}
	return gap() + "(" + full(r, t.l) + t.sign + full(r, t.r) + ")" + gap()
}
