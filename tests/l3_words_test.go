package tests

import (
	"cmp"
	"math/big"
	"math/rand"
	"regexp"
	"slices"
	"strings"

	"loop.example/g00036/impl"
)

// What the document says of chapter 3, worked out in other ways than the program's: names and filters as flat texts, filters from their last node to their first, truth as a scale.

func nameTextByWords(name []impl.Part) string {
	var texts []string
	for _, p := range name {
		texts = append(texts, p.Attr+"="+strings.NewReplacer("\\", "\\\\", ",", "\\,").Replace(p.Text))
	}
	return strings.Join(texts, ",")
}

// underByWords takes good names: a byte 0 is in none of them.
func underByWords(name []impl.Part, base []impl.Part) bool {
	flat := func(name []impl.Part) string {
		text := ""
		for _, p := range name {
			text += "\x00" + p.Attr + "=" + p.Text
		}
		return text
	}
	return strings.HasSuffix(flat(name), flat(base))
}

var wholeNumber = regexp.MustCompile(`^(0|-?[1-9][0-9]*)$`)

// numberOfText answers false where it is no whole number of 64 bits as it is told.
func numberOfText(text string) (*big.Int, bool) {
	num, ok := new(big.Int).SetString(text, 10)
	return num, ok && wholeNumber.MatchString(text) && num.IsInt64()
}

var dirNamePart = regexp.MustCompile(`^[a-zA-Z_][a-zA-Z0-9_]{0,29}=(\x00|\\\\|[ -+\--\[\]-~]){1,60}$`)

// isNameText hides each comma that has its backslash behind a byte 0, so that the others part the text.
func isNameText(text string) bool {
	if text == "" || strings.Contains(text, "\x00") {
		return text == ""
	}
	parts := strings.Split(strings.NewReplacer("\\\\", "\\\\", "\\,", "\x00").Replace(text), ",")
	for _, p := range parts {
		if !dirNamePart.MatchString(p) {
			return false
		}
	}
	return len(parts) <= 8
}

func ofSyntaxByWords(syntax int, text string) bool {
	switch syntax {
	case impl.SynNum:
		_, ok := numberOfText(text)
		return ok
	case impl.SynName:
		return isNameText(text)
	}
	return true
}

func capitalsByWords(text string) string {
	return strings.Map(func(c rune) rune {
		if 'a' <= c && c <= 'z' {
			return c - 32
		}
		return c
	}, text)
}

func sameByWords(syntax int, a string, b string) bool {
	switch syntax {
	case impl.SynText:
		return capitalsByWords(a) == capitalsByWords(b)
	case impl.SynNum:
		_, okA := numberOfText(a)
		_, okB := numberOfText(b)
		return okA && okB && a == b
	}
	return a == b
}

// syntaxByWords is 0 where there is no such type.
func syntaxByWords(s impl.DirSchema, name string) int {
	for _, t := range s.Types {
		if t.Name == name {
			return t.Syntax
		}
	}
	return 0
}

// valuesByWords are none where the entry has no such attribute.
func valuesByWords(e impl.Entry, name string) []string {
	for _, a := range e.Attrs {
		if a.Name == name {
			return a.Values
		}
	}
	return nil
}

// classNames says whether the class, or one above it, names the attribute.
func classNames(s impl.DirSchema, class string, attr string, may bool) bool {
	for _, c := range s.Classes {
		if c.Name == class {
			return slices.Contains(c.Must, attr) || may && slices.Contains(c.May, attr) || classNames(s, c.Up, attr, may)
		}
	}
	return false
}

func namedByWords(s impl.DirSchema, e impl.Entry, attr string, may bool) bool {
	if attr == "class" {
		return true
	}
	for _, class := range valuesByWords(e, "class") {
		if classNames(s, class, attr, may) {
			return true
		}
	}
	return false
}

func isClass(s impl.DirSchema, name string) bool {
	return slices.ContainsFunc(s.Classes, func(c impl.Class) bool { return c.Name == name })
}

// faultsByWords takes a good schema and a good entry. What a Must names is a type, and the types rise.
func faultsByWords(s impl.DirSchema, e impl.Entry) []impl.Fault {
	var faults []impl.Fault
	tell := func(wrong bool, code int, name string) {
		if wrong {
			faults = append(faults, impl.Fault{Code: code, Name: name})
		}
	}
	for _, class := range valuesByWords(e, "class") {
		tell(!isClass(s, class), impl.FaultClass, class)
	}
	for _, t := range s.Types {
		tell(namedByWords(s, e, t.Name, false) && valuesByWords(e, t.Name) == nil, impl.FaultMust, t.Name)
	}
	for _, a := range e.Attrs {
		syntax := syntaxByWords(s, a.Name)
		tell(syntax == 0, impl.FaultType, a.Name)
		if syntax == 0 {
			continue
		}
		tell(!namedByWords(s, e, a.Name, true), impl.FaultMay, a.Name)
		single := slices.Contains(s.Types, impl.AttrType{Name: a.Name, Syntax: syntax, Single: true})
		tell(single && len(a.Values) >= 2, impl.FaultSingle, a.Name)
		tell(slices.ContainsFunc(a.Values, func(value string) bool { return !ofSyntaxByWords(syntax, value) }), impl.FaultSyntax, a.Name)
	}
	first := e.Name[0]
	named := 0
	for _, value := range valuesByWords(e, first.Attr) {
		if sameByWords(syntaxByWords(s, first.Attr), value, first.Text) {
			named++
		}
	}
	tell(named == 0, impl.FaultName, first.Attr)
	return faults
}

// goodFilterByWords keeps, for each node that the next one is within, how many kids of it are to come.
func goodFilterByWords(f []impl.FilterNode) bool {
	if len(f) == 0 || len(f) > 60 {
		return false
	}
	left := []int{1}
	for _, n := range f {
		for len(left) > 0 && left[len(left)-1] == 0 {
			left = left[:len(left)-1]
		}
		if len(left) == 0 || len(left) > 20 || !goodNodeByWords(n) {
			return false
		}
		left[len(left)-1]--
		left = append(left, n.Kids)
	}
	return slices.Max(left) == 0
}

var (
	attrByWords = regexp.MustCompile(`^[a-zA-Z_][a-zA-Z0-9_]{0,29}$`)
	textByWords = regexp.MustCompile(`^[ -~]{1,200}$`)
)

func goodNodeByWords(n impl.FilterNode) bool {
	switch n.Kind {
	case impl.FilterAnd, impl.FilterOr:
		return n.Attr == "" && n.Text == "" && n.Kids >= 0 && n.Kids <= 20
	case impl.FilterNot:
		return n.Attr == "" && n.Text == "" && n.Kids == 1
	case impl.FilterEqual, impl.FilterLeast, impl.FilterMost:
		return attrByWords.MatchString(n.Attr) && textByWords.MatchString(n.Text) && n.Kids == 0
	case impl.FilterHas:
		return attrByWords.MatchString(n.Attr) && n.Text == "" && n.Kids == 0
	case impl.FilterLike:
		return attrByWords.MatchString(n.Attr) && textByWords.MatchString(n.Text) && n.Kids == 0 && goodPattern(n.Text)
	}
	return false
}

// filterTextByWords takes one tree, good or not, and goes from its last node to its first.
func filterTextByWords(f []impl.FilterNode) string {
	var told []string
	for _, n := range slices.Backward(f) {
		cut := len(told) - n.Kids
		kids := slices.Clone(told[cut:])
		slices.Reverse(kids)
		told = append(told[:cut], nodeTextByWords(n, strings.Join(kids, "")))
	}
	return told[0]
}

func nodeTextByWords(n impl.FilterNode, kids string) string {
	text := strings.NewReplacer("\\", "\\\\", "(", "\\(", ")", "\\)").Replace(n.Text)
	if n.Kind != impl.FilterLike && (strings.HasPrefix(text, "*") || strings.HasPrefix(text, "~")) {
		text = "\\" + text
	}
	switch n.Kind {
	case impl.FilterAnd:
		return "(&" + kids + ")"
	case impl.FilterOr:
		return "(|" + kids + ")"
	case impl.FilterNot:
		return "(!" + kids + ")"
	case impl.FilterLeast:
		return "(" + n.Attr + ">=" + text + ")"
	case impl.FilterMost:
		return "(" + n.Attr + "<=" + text + ")"
	case impl.FilterHas:
		return "(" + n.Attr + "=*)"
	case impl.FilterLike:
		return "(" + n.Attr + "=~" + text + ")"
	}
	return "(" + n.Attr + "=" + text + ")"
}

// The places of a filter's text, for readByWords.
const (
	atOpen = iota
	atHead
	atKids
	atKid
	atClose
	atAttr
	atEqual
	atFirst
	atFirstBound
	atFirstLike
	atText
	atTextLike
	atEnd
)

// wordReader goes through a text a byte at a time; open are the nodes whose `)` is to come.
type wordReader struct {
	place int
	open  []int
	nodes []impl.FilterNode
}

// readByWords is the whole of what ReadFilter is to answer.
func readByWords(text string) impl.FilterRes {
	if len(text) > 1000 {
		return impl.FilterRes{Err: 1}
	}
	r := wordReader{}
	for i := 0; i < len(text); i++ {
		if text[i] == '\\' && r.inText() {
			at, ok := r.slash(text, i)
			if !ok {
				return impl.FilterRes{Err: 2, At: at}
			}
			i++
		} else if !r.step(text[i]) {
			return impl.FilterRes{Err: 2, At: i}
		}
	}
	if r.place != atEnd {
		return impl.FilterRes{Err: 2, At: len(text)}
	}
	if !goodFilterByWords(r.nodes) {
		return impl.FilterRes{Err: 3}
	}
	return impl.FilterRes{Nodes: r.nodes}
}

func (r *wordReader) inText() bool {
	return slices.Contains([]int{atFirst, atFirstBound, atFirstLike, atText, atTextLike}, r.place)
}

// slash takes the backslash at i and the byte behind it, or answers where the fault is.
func (r *wordReader) slash(text string, i int) (int, bool) {
	if i+1 == len(text) {
		return i + 1, false
	}
	special := "()\\"
	if r.place == atFirst || r.place == atFirstBound {
		special = "()\\*~"
	}
	if !strings.Contains(special, text[i+1:i+2]) {
		return i, false
	}
	r.put(text[i+1])
	return 0, true
}

// put takes a byte into the Text.
func (r *wordReader) put(c byte) bool {
	r.last().Text += string([]byte{c})
	if r.place == atFirstLike || r.place == atTextLike {
		r.place = atTextLike
	} else {
		r.place = atText
	}
	return true
}

func (r *wordReader) last() *impl.FilterNode {
	return &r.nodes[len(r.nodes)-1]
}

// begin opens a node of that kind, a kid of the one that is open.
func (r *wordReader) begin(kind int, place int) bool {
	if len(r.open) > 0 {
		r.nodes[r.open[len(r.open)-1]].Kids++
	}
	r.open = append(r.open, len(r.nodes))
	r.nodes = append(r.nodes, impl.FilterNode{Kind: kind})
	r.place = place
	return true
}

// end takes a `)`.
func (r *wordReader) end() bool {
	r.open = r.open[:len(r.open)-1]
	switch {
	case len(r.open) == 0:
		r.place = atEnd
	case r.nodes[r.open[len(r.open)-1]].Kind == impl.FilterNot:
		r.place = atClose
	default:
		r.place = atKids
	}
	return true
}

func (r *wordReader) to(place int) bool {
	r.place = place
	return true
}

// kindTo makes the last node one of that kind.
func (r *wordReader) kindTo(kind int, place int) bool {
	r.last().Kind = kind
	return r.to(place)
}

func (r *wordReader) step(c byte) bool {
	switch r.place {
	case atOpen, atKid:
		return c == '(' && r.to(atHead)
	case atHead:
		return r.stepHead(c)
	case atKids:
		return c == '(' && r.to(atHead) || c == ')' && r.end()
	case atClose:
		return c == ')' && r.end()
	case atAttr:
		return r.stepAttr(c)
	case atEqual:
		return c == '=' && r.to(atFirstBound)
	case atFirst:
		return c == '*' && r.kindTo(impl.FilterHas, atClose) || c == '~' && r.kindTo(impl.FilterLike, atFirstLike) || textByte(c) && c != '*' && c != '~' && r.put(c)
	case atFirstBound:
		return textByte(c) && c != '*' && c != '~' && r.put(c)
	case atFirstLike:
		return textByte(c) && r.put(c)
	case atText, atTextLike:
		return c == ')' && r.end() || textByte(c) && r.put(c)
	}
	return false
}

func (r *wordReader) stepHead(c byte) bool {
	switch {
	case c == '&':
		return r.begin(impl.FilterAnd, atKids)
	case c == '|':
		return r.begin(impl.FilterOr, atKids)
	case c == '!':
		return r.begin(impl.FilterNot, atKid)
	case c == '_' || c >= 'a' && c <= 'z' || c >= 'A' && c <= 'Z':
		r.begin(impl.FilterEqual, atAttr)
		r.last().Attr = string([]byte{c})
		return true
	}
	return false
}

func (r *wordReader) stepAttr(c byte) bool {
	switch {
	case c == '=':
		return r.to(atFirst)
	case c == '>':
		return r.kindTo(impl.FilterLeast, atEqual)
	case c == '<':
		return r.kindTo(impl.FilterMost, atEqual)
	case c == '_' || c >= 'a' && c <= 'z' || c >= 'A' && c <= 'Z' || c >= '0' && c <= '9':
		r.last().Attr += string([]byte{c})
		return true
	}
	return false
}

// textByte says whether the byte may stand in a Text by itself.
func textByte(c byte) bool {
	return c >= 32 && c <= 126 && c != '(' && c != ')'
}

// truths are the three values as a scale: And is its least, Or its greatest, Not turns it round.
var truths = []int{impl.No, impl.Maybe, impl.Yes}

// matchByWords takes a good schema, entry and filter, and goes from the last node to the first.
func matchByWords(s impl.DirSchema, e impl.Entry, f []impl.FilterNode) int {
	var known []int
	for _, n := range slices.Backward(f) {
		cut := len(known) - n.Kids
		kids := known[cut:]
		var truth int
		switch n.Kind {
		case impl.FilterAnd:
			truth = slices.Min(append([]int{2}, kids...))
		case impl.FilterOr:
			truth = slices.Max(append([]int{0}, kids...))
		case impl.FilterNot:
			truth = 2 - kids[0]
		default:
			truth = slices.Index(truths, leafByWords(syntaxByWords(s, n.Attr), valuesByWords(e, n.Attr), n))
		}
		known = append(known[:cut], truth)
	}
	return truths[known[0]]
}

func leafByWords(syntax int, values []string, n impl.FilterNode) int {
	bound := n.Kind == impl.FilterLeast || n.Kind == impl.FilterMost
	switch {
	case syntax == 0:
		return impl.Maybe
	case n.Kind == impl.FilterHas:
		return min(len(values), 1)
	case n.Kind == impl.FilterLike && (syntax == impl.SynNum || syntax == impl.SynName):
		return impl.Maybe
	case n.Kind != impl.FilterLike && !ofSyntaxByWords(syntax, n.Text):
		return impl.Maybe
	case bound && syntax == impl.SynName:
		return impl.Maybe
	}
	for _, value := range values {
		if valueMeets(syntax, value, n) {
			return impl.Yes
		}
	}
	return impl.No
}

func valueMeets(syntax int, value string, n impl.FilterNode) bool {
	if n.Kind == impl.FilterEqual {
		return sameByWords(syntax, value, n.Text)
	}
	text := n.Text
	if syntax == impl.SynText {
		value, text = capitalsByWords(value), capitalsByWords(text)
	}
	if n.Kind == impl.FilterLike {
		return likeByWords(value, text)
	}
	order := cmp.Compare(value, text)
	if syntax == impl.SynNum {
		own, ok := numberOfText(value)
		if !ok {
			return false
		}
		other, _ := numberOfText(text)
		order = own.Cmp(other)
	}
	return order == 0 || (order > 0) == (n.Kind == impl.FilterLeast)
}

// searchByWords takes good arguments.
func searchByWords(s impl.DirSchema, entries []impl.Entry, base []impl.Part, scope int, f []impl.FilterNode) ([]int, []string) {
	var found []int
	var refs []string
	for i, e := range entries {
		depth := len(e.Name) - len(base)
		in := scope == impl.ScopeAll || scope == impl.ScopeOne && depth == 1 || scope == impl.ScopeBase && depth == 0
		if !in || !underByWords(e.Name, base) {
			continue
		}
		if ref := valuesByWords(e, "ref"); ref != nil {
			refs = append(refs, slices.Min(ref))
		} else if matchByWords(s, e, f) == impl.Yes {
			found = append(found, i)
		}
	}
	return found, refs
}

// oneOf draws one of the list.
func oneOf[T any](from *rand.Rand, list []T) T {
	return list[from.Intn(len(list))]
}

// drawnTree draws one tree, with nodes of at most that many within each other; it may go beyond other limits.
func drawnTree(from *rand.Rand, within int, leaf func() impl.FilterNode) []impl.FilterNode {
	if within == 1 || from.Intn(3) == 0 {
		return filterOf(leaf())
	}
	n := impl.FilterNode{Kind: 1 + from.Intn(3), Kids: from.Intn(4)}
	if n.Kind == impl.FilterNot {
		n.Kids = 1
	}
	f := filterOf(n)
	for range n.Kids {
		f = append(f, drawnTree(from, within-1, leaf)...)
	}
	return f
}
