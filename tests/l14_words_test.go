package tests

import (
	"math/big"
	"regexp"
	"slices"
	"strings"

	"loop.example/g00036/impl"
)

// What the document says of chapter 14, worked out in other ways than the program's: expressions as rows of letters, of which those that are in the fragment come down to one; all cases of a set at once, as rows of texts that grow choice by choice.

// exprLetters tell each kind of nodes by a letter; all others are `X`.
var exprLetters = map[int]string{
	impl.ExprGet: "G", impl.ExprHas: "H", impl.ExprIs: "I", impl.ExprNot: "!", impl.ExprAnd: "&", impl.ExprOr: "|", impl.ExprIf: "?",
	impl.ExprSame: "=", impl.ExprLess: "<", impl.ExprMost: "<", impl.ExprContains: "C", impl.ExprIn: "N",
}

var varLetters = map[string]string{"principal": "v", "resource": "v", "action": "a", "context": "c"}

// A row of letters that is a whole expression is one wherever it stands in another: so each form may be looked for by itself, the greater ones first.
var (
	heldForms  = regexp.MustCompile(`[=<](?:G[vc][LT]|[LT]G[vc])|CG[vc][LT]|[=N][va][LT]`)
	bareForms  = regexp.MustCompile(`[GH][vc]|Iv|T`)
	jointForms = regexp.MustCompile(`!B|[&|]BB|\?BBB`)
)

func letterOf(n impl.Expr) string {
	switch {
	case n.Kind == impl.ExprLit && n.Atom.Kind == impl.BoolAtom:
		return "T"
	case n.Kind == impl.ExprLit:
		return "L"
	case n.Kind == impl.ExprVar:
		return varLetters[n.Text]
	}
	if letter, ok := exprLetters[n.Kind]; ok {
		return letter
	}
	return "X"
}

// whenIsInFragment takes a good expression.
func whenIsInFragment(e []impl.Expr) bool {
	row := ""
	for _, n := range e {
		row += letterOf(n)
	}
	row = bareForms.ReplaceAllString(heldForms.ReplaceAllString(row, "B"), "B")
	for range e {
		row = jointForms.ReplaceAllString(row, "B")
	}
	return row == "B"
}

func inFragmentByWords(p impl.Policy) bool {
	if !goodPolicyByWords(p) || strings.Contains(headForms[p.Principal.Kind]+headForms[p.Resource.Kind], "?") {
		return false
	}
	return len(p.When) == 0 || whenIsInFragment(p.When)
}

// mentionsByWords are the literals that policies in the fragment hold against what is told as `principal`, `principal.age` and so on; `principal^` are those in which it is asked to be, and the empty text is all refs.
func mentionsByWords(policies []impl.Policy) map[string][]impl.Atom {
	found := map[string][]impl.Atom{}
	add := func(key string, a impl.Atom) {
		if !slices.Contains(found[key], a) {
			found[key] = append(found[key], a)
		}
	}
	addRef := func(word string, isIn bool, a impl.Atom) {
		if a.Kind != impl.RefAtom {
			return
		}
		add(word, a)
		if isIn {
			add(word+"^", a)
		}
	}
	for _, p := range policies {
		for word, h := range map[string]impl.Head{"principal": p.Principal, "action": p.Action, "resource": p.Resource} {
			addRef(word, h.Kind == impl.HeadIn, h.Atom)
			addRef("", false, h.Atom)
		}
		e := p.When
		for i, n := range e {
			addRef("", false, n.Atom)
			if !strings.Contains("=<CN", letterOf(n)) {
				continue
			}
			// The four nodes of a test with a field, the literal first or last, or the three of one without.
			switch e[i+1].Kind {
			case impl.ExprGet:
				add(e[i+2].Text+"."+e[i+1].Text, e[i+3].Atom)
			case impl.ExprLit:
				add(e[i+3].Text+"."+e[i+2].Text, e[i+1].Atom)
			default:
				addRef(e[i+1].Text, n.Kind == impl.ExprIn, e[i+2].Atom)
			}
		}
	}
	for _, atoms := range found {
		slices.SortFunc(atoms, impl.CompareAtoms)
	}
	return found
}

// numbersByWords are the numbers, with those beside them, between the limits.
func numbersByWords(own []impl.Atom, least int, most int) []int {
	if len(own) == 0 {
		return []int{0}
	}
	var nums []int
	for _, a := range own {
		for _, by := range []int64{-1, 0, 1} {
			num := new(big.Int).Add(big.NewInt(int64(a.Num)), big.NewInt(by))
			if num.Cmp(big.NewInt(int64(least))) >= 0 && num.Cmp(big.NewInt(int64(most))) <= 0 {
				nums = append(nums, int(num.Int64()))
			}
		}
	}
	slices.Sort(nums)
	return slices.Compact(nums)
}

// nextTextByWords tries each place from the last one on; false where there is no next one.
func nextTextByWords(text string) (string, bool) {
	if len(text) < 200 {
		return text + " ", true
	}
	for at := len(text) - 1; at >= 0; at-- {
		if text[at] < 126 {
			return text[:at] + string([]byte{text[at] + 1}), true
		}
	}
	return "", false
}

func otherBlockByWords(own []impl.Atom) impl.Atom {
	for first := 0; ; first++ {
		for bits := range 33 {
			block := addrAtom(first, bits)
			if first%(1<<(32-bits)) == 0 && !slices.Contains(own, block) {
				return block
			}
		}
	}
}

// otherRefByWords tries all that are short enough; false where each of them is told.
func otherRefByWords(typ string, told []impl.Atom) (impl.Atom, bool) {
	for more := 0; len("other")+more <= 200; more++ {
		ref := refAtom(typ, "other"+strings.Repeat("_", more))
		if !slices.Contains(told, ref) {
			return ref, true
		}
	}
	return impl.Atom{}, false
}

// setTextsByWords are the texts of all sets in order: with each atom come all sets so far, with that one.
func setTextsByWords(own []impl.Atom) []string {
	texts := []string{"[]"}
	for i, a := range own {
		for _, text := range texts[:1<<i] {
			texts = append(texts, impl.ValueText(impl.SetOf(append(slices.Clone(valueOf(text).Items), a))))
		}
	}
	return texts
}

// optionsByWords are the texts of the values of a field of that kind; none where there is no way to tell.
func optionsByWords(kind string, lits []impl.Atom, told []impl.Atom) []string {
	item, isSet := strings.CutPrefix(kind, "set ")
	var own []impl.Atom
	for _, a := range lits {
		if textIsOfKind(impl.AtomText(a), item) {
			own = append(own, a)
		}
	}
	if isSet {
		if len(own) > 4 {
			return nil
		}
		return setTextsByWords(own)
	}
	var atoms []impl.Atom
	switch kind {
	case "bool":
		return []string{"false", "true"}
	case "num", "dec":
		for _, num := range numbersByWords(own, -1<<63, 1<<63-1) {
			atoms = append(atoms, impl.Atom{Kind: map[string]int{"num": impl.NumAtom, "dec": impl.DecAtom}[kind], Num: num})
		}
	case "time":
		for _, num := range numbersByWords(own, -100000000000, 100000000000) {
			atoms = append(atoms, timeAtom(num))
		}
	case "text":
		atoms = append(own, textAtom(""))
		for _, a := range own {
			if next, ok := nextTextByWords(a.Text); ok {
				atoms = append(atoms, textAtom(next))
			}
		}
	case "addr":
		atoms = append(own, otherBlockByWords(own))
	default:
		other, ok := otherRefByWords(kind[len("ref "):], told)
		if !ok {
			return nil
		}
		return append(atomTexts(own), impl.AtomText(other))
	}
	slices.SortFunc(atoms, impl.CompareAtoms)
	return atomTexts(slices.Compact(atoms))
}

func atomTexts(atoms []impl.Atom) []string {
	var texts []string
	for _, a := range atoms {
		texts = append(texts, impl.AtomText(a))
	}
	return texts
}

// wordCase is a case as the document makes it.
type wordCase struct {
	things  []impl.Thing
	request impl.Request
}

// text tells all of the case.
func (c wordCase) text() string {
	text := impl.AtomText(c.request.Action)
	for _, t := range c.things {
		text += " | " + impl.AtomText(t.Ref) + " ^" + strings.Join(atomTexts(t.Parents), ",")
		for i, name := range t.Names {
			text += " " + name + "=" + impl.ValueText(t.Values[i])
		}
	}
	text += " | " + impl.AtomText(c.request.Principal) + " " + impl.AtomText(c.request.Resource)
	for i, name := range c.request.Names {
		text += " " + name + "=" + impl.ValueText(c.request.Values[i])
	}
	return text
}

// choiceByWords is a part or a field with all that it may be; `-` is no field.
type choiceByWords struct {
	what    string
	options []string
}

func fieldChoicesByWords(word string, attrs []impl.AttrKind, mentions map[string][]impl.Atom) []choiceByWords {
	var choices []choiceByWords
	for _, a := range attrs {
		options := optionsByWords(a.Kind, mentions[word+"."+a.Name], mentions[""])
		if !a.Must && options != nil {
			options = append(options, "-")
		}
		choices = append(choices, choiceByWords{word + "." + a.Name, options})
	}
	return choices
}

func thingChoicesByWords(s impl.PolSchema, word string, typ string, mentions map[string][]impl.Atom) []choiceByWords {
	own := s.Things[slices.Index(thingNames(s), typ)]
	var parents []string
	if above := mentions[word+"^"]; len(above) <= 4 {
		parents = setTextsByWords(above)
	}
	return append([]choiceByWords{
		{word, optionsByWords("ref "+typ, mentions[word], mentions[""])},
		{word + "^", parents},
	}, fieldChoicesByWords(word, own.Attrs, mentions)...)
}

// caseOfRow takes what was chosen, told as `what` and the option.
func caseOfRow(action string, row [][2]string) wordCase {
	things := map[string]*impl.Thing{"principal": {}, "resource": {}, "context": {}}
	for _, chosen := range row {
		what, option := chosen[0], chosen[1]
		word, field, isField := strings.Cut(what, ".")
		switch {
		case isField && option != "-":
			t := things[word]
			t.Names, t.Values = append(t.Names, field), append(t.Values, valueOf(option))
		case isField:
		case strings.HasSuffix(what, "^"):
			things[strings.TrimSuffix(what, "^")].Parents = valueOf(option).Items
		default:
			things[what].Ref = valueOf(option).Atom
		}
	}
	principal, resource, context := *things["principal"], *things["resource"], *things["context"]
	c := wordCase{
		things:  []impl.Thing{principal, resource},
		request: impl.Request{Principal: principal.Ref, Action: refAtom("Action", action), Resource: resource.Ref, Names: context.Names, Values: context.Values},
	}
	if resource.Ref.Type < principal.Ref.Type {
		slices.Reverse(c.things)
	}
	return c
}

// setOfCases are all cases of one set; false where there is no way to tell.
func setOfCases(action string, choices []choiceByWords) ([]wordCase, bool) {
	many := big.NewInt(1)
	for _, c := range choices {
		many.Mul(many, big.NewInt(int64(len(c.options))))
	}
	if many.Sign() == 0 || many.Cmp(big.NewInt(5000)) > 0 {
		return nil, false
	}
	rows := [][][2]string{nil}
	for _, c := range choices {
		var longer [][][2]string
		for _, row := range rows {
			for _, option := range c.options {
				longer = append(longer, append(slices.Clone(row), [2]string{c.what, option}))
			}
		}
		rows = longer
	}
	var cases []wordCase
	for _, row := range rows {
		cases = append(cases, caseOfRow(action, row))
	}
	return cases, true
}

// casesByWords answers all cases, and what CasesOf is to tell.
func casesByWords(s impl.PolSchema, policies []impl.Policy) ([]wordCase, int) {
	isOut := func(p impl.Policy) bool { return !inFragmentByWords(p) }
	if !goodPolSchemaByWords(s) || len(policies) > 80 || slices.ContainsFunc(policies, isOut) {
		return nil, -1
	}
	mentions := mentionsByWords(policies)
	var cases []wordCase
	for _, a := range s.Actions {
		for _, principal := range a.Principals {
			for _, resource := range a.Resources {
				choices := thingChoicesByWords(s, "principal", principal, mentions)
				choices = append(choices, thingChoicesByWords(s, "resource", resource, mentions)...)
				choices = append(choices, fieldChoicesByWords("context", a.Context, mentions)...)
				own, ok := setOfCases(a.Id, choices)
				cases = append(cases, own...)
				if !ok || principal == resource || len(cases) > 5000 {
					return nil, 0
				}
			}
		}
	}
	return cases, len(cases)
}

// verdictByWords tells the first case for which the two answers of Allow are wrong.
func verdictByWords(s impl.PolSchema, a []impl.Policy, b []impl.Policy, wrong func(byA bool, byB bool) bool) impl.Verdict {
	if !goodPolSchemaByWords(s) || !goodPoliciesByWords(a) || !goodPoliciesByWords(b) {
		return impl.Verdict{}
	}
	cases, many := casesByWords(s, slices.Concat(a, b))
	if many <= 0 {
		return impl.Verdict{Kind: impl.VerdictUnknown}
	}
	for _, c := range cases {
		if wrong(impl.Decide(c.things, c.request, a).Allow, impl.Decide(c.things, c.request, b).Allow) {
			return impl.Verdict{Kind: impl.VerdictNo, Things: c.things, Request: c.request}
		}
	}
	return impl.Verdict{Kind: impl.VerdictYes}
}

func sameRequest(a impl.Request, b impl.Request) bool {
	return a.Principal == b.Principal && a.Action == b.Action && a.Resource == b.Resource &&
		slices.Equal(a.Names, b.Names) && slices.EqualFunc(a.Values, b.Values, sameValue)
}

func sameVerdict(a impl.Verdict, b impl.Verdict) bool {
	return a.Kind == b.Kind && slices.EqualFunc(a.Things, b.Things, sameThing) && sameRequest(a.Request, b.Request)
}
