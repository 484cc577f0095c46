package tests

import (
	"regexp"
	"slices"
	"strings"

	"loop.example/g00036/impl"
)

// What chapter 10 says, worked out in other ways: trees from their last node to the first, texts by parting them at their signs.

// exprForm is what the document tells of a kind: what its Text must be, how close it stands, what stands ahead of each kid and behind the last, and how close each kid must stand to have no brackets.
type exprForm struct {
	text   *regexp.Regexp
	level  int
	pieces []string
	least  []int
}

var (
	noWord      = regexp.MustCompile(`^$`)
	requestWord = regexp.MustCompile(`^(principal|action|resource|context)$`)
	patternText = regexp.MustCompile(`^([ -\[\]-~]|\\\*|\\\\){0,200}$`)
	policyId    = regexp.MustCompile(`^[a-zA-Z0-9_.-]{1,40}$`)
)

func pairForm(level int, sign string, first int) exprForm {
	return exprForm{noWord, level, []string{"", " " + sign + " ", ""}, []int{first, level + 1}}
}

// exprForms does not tell of ExprSet that it has kids: these have no places of their own.
func exprForms() map[int]exprForm {
	forms := map[int]exprForm{
		impl.ExprLit:   {noWord, 9, []string{""}, nil},
		impl.ExprSet:   {noWord, 9, nil, nil},
		impl.ExprVar:   {requestWord, 9, []string{""}, nil},
		impl.ExprGet:   {changeName, 8, []string{"", "."}, []int{8}},
		impl.ExprNot:   {noWord, 7, []string{"!", ""}, []int{7}},
		impl.ExprNeg:   {noWord, 7, []string{"-", ""}, []int{7}},
		impl.ExprTimes: pairForm(6, "*", 6),
		impl.ExprPlus:  pairForm(5, "+", 5),
		impl.ExprMinus: pairForm(5, "-", 5),
		impl.ExprHas:   {changeName, 4, []string{"", " has "}, []int{5}},
		impl.ExprIs:    {changeName, 4, []string{"", " is "}, []int{5}},
		impl.ExprLike:  {patternText, 4, []string{"", " like "}, []int{5}},
		impl.ExprAnd:   pairForm(3, "&&", 3),
		impl.ExprOr:    pairForm(2, "||", 2),
		impl.ExprIf:    {noWord, 1, []string{"if ", " then ", " else ", ""}, []int{1, 1, 1}},
	}
	for kind, sign := range map[int]string{impl.ExprSame: "==", impl.ExprLess: "<", impl.ExprMost: "<=", impl.ExprIn: "in", impl.ExprContains: "contains", impl.ExprWithin: "within"} {
		forms[kind] = pairForm(4, sign, 5)
	}
	return forms
}

var formsOfExprs = exprForms()

func goodExprNodeByWords(n impl.Expr) bool {
	form, known := formsOfExprs[n.Kind]
	if !known || !form.text.MatchString(n.Text) || len(n.Text) > 200 {
		return false
	}
	if n.Kind == impl.ExprLit != (n.Atom != impl.Atom{}) || n.Kind == impl.ExprLit && !impl.GoodAtom(n.Atom) {
		return false
	}
	if n.Kind == impl.ExprSet {
		return isBetween(n.Kids, 0, 10)
	}
	return n.Kids == len(form.least)
}

func isLit(n impl.Expr) bool {
	return n.Kind == impl.ExprLit
}

// goodExprByWords goes from the last node to the first and keeps, of each tree that it has whole, how many of its nodes stand within each other.
func goodExprByWords(e []impl.Expr) bool {
	if len(e) > 60 {
		return false
	}
	var within []int
	for i := len(e) - 1; i >= 0; i-- {
		n := e[i]
		if !goodExprNodeByWords(n) || n.Kids > len(within) {
			return false
		}
		if n.Kind == impl.ExprSet && slices.ContainsFunc(e[i+1:i+1+n.Kids], func(kid impl.Expr) bool { return !isLit(kid) }) {
			return false
		}
		own, left := 1, len(within)-n.Kids
		for _, kid := range within[left:] {
			own = max(own, kid+1)
		}
		within = append(within[:left], own)
	}
	return len(within) == 1 && within[0] <= 12
}

// toldSide is the text of a tree that is whole, and what its first node is.
type toldSide struct {
	text string
	kind int
}

// inPlace is the kid's text as it stands below that kind, where it must stand as close as told.
func (s toldSide) inPlace(below int, least int) string {
	brackets := formsOfExprs[s.kind].level < least
	switch below {
	case impl.ExprNeg:
		brackets = brackets || s.kind == impl.ExprLit
	case impl.ExprGet:
		brackets = s.kind != impl.ExprVar && s.kind != impl.ExprGet
	}
	if brackets {
		return "(" + s.text + ")"
	}
	return s.text
}

func exprNodeText(n impl.Expr, kids []toldSide) string {
	if n.Kind == impl.ExprSet {
		var texts []string
		for _, kid := range kids {
			texts = append(texts, kid.text)
		}
		return "[" + strings.Join(texts, ", ") + "]"
	}
	form := formsOfExprs[n.Kind]
	text := ""
	for i, kid := range kids {
		text += form.pieces[i] + kid.inPlace(n.Kind, form.least[i])
	}
	text += form.pieces[len(kids)]
	switch n.Kind {
	case impl.ExprLit:
		return impl.AtomText(n.Atom)
	case impl.ExprLike:
		return text + impl.AtomText(textAtom(n.Text))
	}
	return text + n.Text
}

func exprTextByWords(e []impl.Expr) string {
	if !goodExprByWords(e) {
		return ""
	}
	var sides []toldSide
	for i := len(e) - 1; i >= 0; i-- {
		left := len(sides) - e[i].Kids
		kids := slices.Clone(sides[left:])
		slices.Reverse(kids)
		sides = append(sides[:left], toldSide{exprNodeText(e[i], kids), e[i].Kind})
	}
	return sides[0].text
}

// masked is the text with a byte 0 in place of each that stands in quotes or brackets; false where these do not belong to each other.
func masked(text string) (string, bool) {
	out := []byte(text)
	ends := ""
	for i := 0; i < len(text); i++ {
		last := len(ends) - 1
		inner := last >= 0
		switch c := text[i]; {
		case inner && ends[last] == '"' && c == '\\':
			if i+1 == len(text) {
				return "", false
			}
			out[i] = 0
			i++
		case inner && ends[last] == c:
			ends = ends[:last]
			inner = last > 0
		case inner && ends[last] == '"':
		case c == '"':
			ends += "\""
		case c == '(':
			ends += ")"
		case c == '[':
			ends += "]"
		case c == ')' || c == ']':
			return "", false
		}
		if inner {
			out[i] = 0
		}
	}
	return string(out), ends == ""
}

// signPlace is where in a text, outside of quotes and brackets, a word or sign stands between operands, and how many ifs are open there.
type signPlace struct {
	sign  string
	at    int
	depth int
}

// signPlaces goes from word to word: an operand comes first and behind each sign, but a name or pattern behind `has`, `is` and `like`.
func signPlaces(mask string) ([]signPlace, bool) {
	var places []signPlace
	waits := ""
	at, operand, word := 0, true, false
	for _, part := range strings.Split(mask, " ") {
		open := len(waits)
		switch {
		case part == "":
			return nil, false
		case word:
			word = false
		case operand && part == "if":
			waits += "t"
		case operand:
			operand = false
		case part == "has" || part == "is" || part == "like":
			places = append(places, signPlace{part, at, open})
			word = true
		case part == "then" && strings.HasSuffix(waits, "t"):
			waits = waits[:open-1] + "e"
			places = append(places, signPlace{part, at, open})
			operand = true
		case part == "else" && strings.HasSuffix(waits, "e"):
			waits = waits[:open-1]
			places = append(places, signPlace{part, at, open})
			operand = true
		case slices.Contains([]string{"||", "&&", "==", "<", "<=", "in", "contains", "within", "+", "-", "*"}, part):
			places = append(places, signPlace{part, at, open})
			operand = true
		default:
			return nil, false
		}
		at += len(part) + 1
	}
	return places, !operand && !word && waits == ""
}

// bracketsOff is what stands in the brackets that hold the whole text.
func bracketsOff(text string) (string, bool) {
	mask, ok := masked(text)
	if !ok || len(text) < 2 || mask != "("+strings.Repeat("\x00", len(text)-2)+")" {
		return "", false
	}
	return text[1 : len(text)-1], true
}

// placedByWords is what a text says in a place where some kinds have brackets and the others do not.
func placedByWords(text string, brackets func(kind int) bool) ([]impl.Expr, bool) {
	inner, held := bracketsOff(text)
	if !held {
		inner = text
	}
	e, ok := ownByWords(inner)
	if !ok {
		return nil, false
	}
	return e, held == brackets(e[0].Kind)
}

// sideByWords is what a text says in a place where it has brackets just if it stands less close than told.
func sideByWords(text string, least int) ([]impl.Expr, bool) {
	return placedByWords(text, func(kind int) bool { return formsOfExprs[kind].level < least })
}

// kindsOfSigns are the kinds of all signs between two sides.
var kindsOfSigns = map[string]int{
	"||": impl.ExprOr, "&&": impl.ExprAnd, "==": impl.ExprSame, "<": impl.ExprLess, "<=": impl.ExprMost, "in": impl.ExprIn, "contains": impl.ExprContains, "within": impl.ExprWithin,
	"+": impl.ExprPlus, "-": impl.ExprMinus, "*": impl.ExprTimes, "has": impl.ExprHas, "is": impl.ExprIs, "like": impl.ExprLike,
}

// ifByWords parts a text at the words of its first `if`.
func ifByWords(text string, places []signPlace) ([]impl.Expr, bool) {
	var cuts []int
	for _, p := range places {
		if p.depth == 1 && (p.sign == "then" || p.sign == "else") {
			cuts = append(cuts, p.at)
		}
	}
	e := []impl.Expr{{Kind: impl.ExprIf, Kids: 3}}
	for _, kid := range []string{text[len("if ") : cuts[0]-1], text[cuts[0]+len("then ") : cuts[1]-1], text[cuts[1]+len("else "):]} {
		own, ok := ownByWords(kid)
		if !ok {
			return nil, false
		}
		e = append(e, own...)
	}
	return e, true
}

// pairByWords parts a text at the last sign of the least close level; an `if` would have to stand in brackets.
func pairByWords(text string, places []signPlace) ([]impl.Expr, bool) {
	top := places[0]
	for _, p := range places {
		if p.sign == "then" || p.sign == "else" {
			return nil, false
		}
		if formsOfExprs[kindsOfSigns[p.sign]].level <= formsOfExprs[kindsOfSigns[top.sign]].level {
			top = p
		}
	}
	kind := kindsOfSigns[top.sign]
	form := formsOfExprs[kind]
	e, ok := sideByWords(text[:top.at-1], form.least[0])
	if !ok {
		return nil, false
	}
	behind := text[top.at+len(top.sign)+1:]
	n := impl.Expr{Kind: kind, Kids: len(form.least), Text: behind}
	switch {
	case n.Kids == 2:
		second, ok := sideByWords(behind, form.least[1])
		n.Text = ""
		return slices.Concat([]impl.Expr{n}, e, second), ok
	case kind == impl.ExprLike:
		a, ok := impl.ReadAtom(behind)
		n.Text = a.Text
		return append([]impl.Expr{n}, e...), ok && a.Kind == impl.TextAtom
	}
	return append([]impl.Expr{n}, e...), true
}

// negByWords is what stands behind a `-`.
func negByWords(text string) ([]impl.Expr, bool) {
	return placedByWords(text, func(kind int) bool { return kind == impl.ExprLit || formsOfExprs[kind].level < 7 })
}

// gotByWords is what stands ahead of a `.`.
func gotByWords(text string) ([]impl.Expr, bool) {
	return placedByWords(text, func(kind int) bool { return kind != impl.ExprVar && kind != impl.ExprGet })
}

func setByWords(text string, mask string) ([]impl.Expr, bool) {
	if len(text) < 2 || mask != "["+strings.Repeat("\x00", len(text)-2)+"]" {
		return nil, false
	}
	n := impl.Expr{Kind: impl.ExprSet}
	inner := text[1 : len(text)-1]
	if inner == "" {
		return []impl.Expr{n}, true
	}
	innerMask, ok := masked(inner)
	if !ok {
		return nil, false
	}
	e, at := []impl.Expr{n}, 0
	for _, part := range strings.Split(innerMask, ", ") {
		a, ok := impl.ReadAtom(inner[at : at+len(part)])
		if !ok {
			return nil, false
		}
		e = append(e, impl.Expr{Kind: impl.ExprLit, Atom: a})
		at += len(part) + len(", ")
	}
	e[0].Kids = len(e) - 1
	return e, true
}

// closeByWords is what a text says that has no sign between two sides outside of brackets.
func closeByWords(text string, mask string) ([]impl.Expr, bool) {
	dot := strings.LastIndexByte(mask, '.')
	switch {
	case requestWord.MatchString(text):
		return []impl.Expr{{Kind: impl.ExprVar, Text: text}}, true
	case text[0] == '!':
		e, ok := sideByWords(text[1:], 7)
		return append([]impl.Expr{{Kind: impl.ExprNot, Kids: 1}}, e...), ok
	case text[0] == '-':
		e, ok := negByWords(text[1:])
		return append([]impl.Expr{{Kind: impl.ExprNeg, Kids: 1}}, e...), ok
	case dot > 0:
		e, ok := gotByWords(text[:dot])
		return append([]impl.Expr{{Kind: impl.ExprGet, Text: text[dot+1:], Kids: 1}}, e...), ok
	}
	return setByWords(text, mask)
}

// ownByWords is what a text says that has no brackets around it as a whole. It may go beyond the limits.
func ownByWords(text string) ([]impl.Expr, bool) {
	if a, ok := impl.ReadAtom(text); ok {
		return []impl.Expr{{Kind: impl.ExprLit, Atom: a}}, true
	}
	mask, ok := masked(text)
	if !ok {
		return nil, false
	}
	places, ok := signPlaces(mask)
	switch {
	case !ok:
		return nil, false
	case strings.HasPrefix(text, "if "):
		return ifByWords(text, places)
	case len(places) > 0:
		return pairByWords(text, places)
	}
	return closeByWords(text, mask)
}

func readExprByWords(text string) ([]impl.Expr, bool) {
	if len(text) > 9000 {
		return nil, false
	}
	e, ok := ownByWords(text)
	if !ok || !goodExprByWords(e) {
		return nil, false
	}
	return e, true
}

func goodRefByWords(a impl.Atom) bool {
	return impl.GoodAtom(a) && a.Kind == impl.RefAtom
}

// headForms are, at the place of each kind of heads, what stands behind the word, ahead of an atom or Type.
var headForms = []string{impl.HeadAny: "", impl.HeadSame: " == ", impl.HeadIn: " in ", impl.HeadIs: " is ", impl.HeadSlot: " == ?", impl.HeadInSlot: " in ?"}

func goodHeadByWords(h impl.Head) bool {
	atom, typ := h.Atom != impl.Atom{}, h.Type != ""
	switch h.Kind {
	case impl.HeadAny, impl.HeadSlot, impl.HeadInSlot:
		return !atom && !typ
	case impl.HeadSame, impl.HeadIn:
		return goodRefByWords(h.Atom) && !typ
	case impl.HeadIs:
		return !atom && changeName.MatchString(h.Type)
	}
	return false
}

func goodPolicyByWords(p impl.Policy) bool {
	for _, h := range []impl.Head{p.Principal, p.Action, p.Resource} {
		if !goodHeadByWords(h) {
			return false
		}
	}
	return policyId.MatchString(p.Id) && p.Action.Kind <= impl.HeadIs && (len(p.When) == 0 || goodExprByWords(p.When))
}

func policyTextByWords(p impl.Policy) string {
	if !goodPolicyByWords(p) {
		return ""
	}
	var heads []string
	for i, h := range []impl.Head{p.Principal, p.Action, p.Resource} {
		heads = append(heads, []string{"principal", "action", "resource"}[i]+headForms[h.Kind]+impl.AtomText(h.Atom)+h.Type)
	}
	text := map[bool]string{true: "permit", false: "forbid"}[p.Permit] + ` "` + p.Id + `" (` + strings.Join(heads, ", ") + ")"
	if len(p.When) > 0 {
		text += " when " + exprTextByWords(p.When)
	}
	return text + ";"
}

const headBehind = `(?:( == | in )([a-zA-Z_][a-zA-Z0-9_]*::"(?:[^"\\]|\\["\\])*")|( is )([a-zA-Z_][a-zA-Z0-9_]*)|( == \?| in \?))?`

var policyLine = regexp.MustCompile(`(?s)^(permit|forbid) "([^"]*)" \(principal` + headBehind + `, action` + headBehind + `, resource` + headBehind + `\)(?: when (.*))?;$`)

func headByWords(found []string) (impl.Head, bool) {
	h := impl.Head{Kind: slices.Index(headForms[1:], found[0]+found[2]+found[4]) + 1, Type: found[3]}
	if found[1] == "" {
		return h, true
	}
	a, ok := impl.ReadAtom(found[1])
	h.Atom = a
	return h, ok
}

func policyByWords(line string) (impl.Policy, bool) {
	found := policyLine.FindStringSubmatch(line)
	if found == nil {
		return impl.Policy{}, false
	}
	p := impl.Policy{Id: found[2], Permit: found[1] == "permit"}
	first, ok1 := headByWords(found[3:8])
	second, ok2 := headByWords(found[8:13])
	third, ok3 := headByWords(found[13:18])
	p.Principal, p.Action, p.Resource = first, second, third
	ok := ok1 && ok2 && ok3
	// The When is told apart from none by where the heads end: a text that has an empty one is wrong.
	if when := found[18]; when != "" || strings.HasSuffix(line, ") when ;") {
		e, read := readExprByWords(when)
		p.When, ok = e, ok && read
	}
	return p, ok && goodPolicyByWords(p)
}

func readPoliciesByWords(text string) impl.PolicyRes {
	if len(text) > 20000 {
		return impl.PolicyRes{Err: 1}
	}
	var res impl.PolicyRes
	var ids []string
	lines := strings.Split(text, "\n")
	for i, line := range lines[:len(lines)-1] {
		p, ok := policyByWords(line)
		if !ok {
			return impl.PolicyRes{Err: 2, Line: i + 1}
		}
		res.Policies, ids = append(res.Policies, p), append(ids, p.Id)
	}
	if lines[len(lines)-1] != "" {
		return impl.PolicyRes{Err: 2, Line: len(lines)}
	}
	if len(ids) > 40 || !risesByWords(ids) {
		return impl.PolicyRes{Err: 3}
	}
	return res
}

func linkByWords(p impl.Policy, id string, principal impl.Atom, resource impl.Atom) (impl.Policy, bool) {
	slots := p.Principal.Kind >= impl.HeadSlot || p.Resource.Kind >= impl.HeadSlot
	if !goodPolicyByWords(p) || !slots || !policyId.MatchString(id) || !goodRefByWords(principal) || !goodRefByWords(resource) {
		return impl.Policy{}, false
	}
	for _, side := range []struct {
		head *impl.Head
		atom impl.Atom
	}{{&p.Principal, principal}, {&p.Resource, resource}} {
		// The slots' kinds stand behind the others in the same order, three later.
		if side.head.Kind >= impl.HeadSlot {
			side.head.Kind, side.head.Atom = side.head.Kind-3, side.atom
		}
	}
	p.Id, p.When = id, slices.Clone(p.When)
	return p, true
}

func samePolicy(a impl.Policy, b impl.Policy) bool {
	return a.Id == b.Id && a.Permit == b.Permit && a.Principal == b.Principal && a.Action == b.Action && a.Resource == b.Resource && slices.Equal(a.When, b.When)
}

func samePolicyRes(a impl.PolicyRes, b impl.PolicyRes) bool {
	return a.Err == b.Err && a.Line == b.Line && slices.EqualFunc(a.Policies, b.Policies, samePolicy)
}
