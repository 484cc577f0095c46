package tests

import (
	"math/big"
	"net/netip"
	"regexp"
	"slices"
	"strings"

	"loop.example/g00036/impl"
)

// What the document says of chapter 12, worked out in other ways than the program's: what is above by as many rounds as there are things; expressions from their last node to the first, what is not evaluated as well, and left out of account then; values as texts, of which the form tells the kind.

func ancestorsByWords(list []impl.Thing, ref impl.Atom) []impl.Atom {
	if !goodThingsByWords(list) || !goodRefByWords(ref) {
		return nil
	}
	found := map[string]impl.Atom{ref.Type + "\x00" + ref.Text: ref}
	for range list {
		for _, t := range list {
			if _, ok := found[t.Ref.Type+"\x00"+t.Ref.Text]; !ok {
				continue
			}
			for _, p := range t.Parents {
				found[p.Type+"\x00"+p.Text] = p
			}
		}
	}
	var keys []string
	for key := range found {
		keys = append(keys, key)
	}
	slices.Sort(keys)
	var out []impl.Atom
	for _, key := range keys {
		out = append(out, found[key])
	}
	return out
}

// headMatchesByWords goes by what stands behind the word in a head's text.
func headMatchesByWords(list []impl.Thing, h impl.Head, ref impl.Atom) bool {
	if !goodThingsByWords(list) || !goodHeadByWords(h) || !goodRefByWords(ref) {
		return false
	}
	switch headForms[h.Kind] {
	case "":
		return true
	case " == ":
		return impl.AtomText(ref) == impl.AtomText(h.Atom)
	case " in ":
		return slices.Contains(ancestorsByWords(list, ref), h.Atom)
	case " is ":
		return strings.HasPrefix(impl.AtomText(ref), h.Type+"::")
	}
	return false
}

// toldOutcome is the text of a value, or a fault; context is told of the ExprVar `context` alone.
type toldOutcome struct {
	text    string
	fault   int
	context bool
}

var refForm = regexp.MustCompile(`^[a-zA-Z_][a-zA-Z0-9_]*::"`)

// formOf is the word of an atom's kind, or `set`.
func formOf(text string) string {
	for word, form := range formsOfAtoms {
		if form.MatchString(text) {
			return word
		}
	}
	if refForm.MatchString(text) {
		return "ref"
	}
	return "set"
}

// numberIn is what the text of a number, decimal or time counts.
func numberIn(text string) *big.Int {
	num, ok := new(big.Int).SetString(strings.NewReplacer("@", "", ".", "").Replace(text), 10)
	if !ok {
		panic("no number: " + text)
	}
	return num
}

// wrapped is the int that a number comes to when it wraps.
func wrapped(num *big.Int) int {
	round := new(big.Int).Lsh(big.NewInt(1), 64)
	half := new(big.Int).Lsh(big.NewInt(1), 63)
	num = new(big.Int).Mod(new(big.Int).Add(num, half), round)
	return int(num.Sub(num, half).Int64())
}

// itemTexts are those of a set's text.
func itemTexts(text string) []string {
	var texts []string
	for _, a := range valueOf(text).Items {
		texts = append(texts, impl.AtomText(a))
	}
	return texts
}

func boolOutcome(holds bool) toldOutcome {
	return toldOutcome{text: map[bool]string{true: "true", false: "false"}[holds]}
}

// wordScene is what an expression is evaluated in.
type wordScene struct {
	list    []impl.Thing
	request impl.Request
}

// fieldByWords looks for a field by the outcome of the kid that has it; the second answer is whether the kid may have any.
func (s wordScene) fieldByWords(kid toldOutcome, name string) (string, bool) {
	things := slices.Clone(s.list)
	if kid.context {
		things = []impl.Thing{{Names: s.request.Names, Values: s.request.Values}}
		kid.text = ""
	} else if formOf(kid.text) != "ref" {
		return "", false
	}
	for _, t := range things {
		if at := slices.Index(t.Names, name); impl.AtomText(t.Ref) == kid.text && at >= 0 {
			return impl.ValueText(t.Values[at]), true
		}
	}
	return "", true
}

// single is an expression of one kid, which is no fault.
func (s wordScene) single(n impl.Expr, kid toldOutcome) toldOutcome {
	own := ""
	if !kid.context {
		own = formOf(kid.text)
	}
	switch {
	case n.Kind == impl.ExprGet || n.Kind == impl.ExprHas:
		text, may := s.fieldByWords(kid, n.Text)
		switch {
		case !may:
			return toldOutcome{fault: 1}
		case n.Kind == impl.ExprHas:
			return boolOutcome(text != "")
		case text == "":
			return toldOutcome{fault: 2}
		}
		return toldOutcome{text: text}
	case n.Kind == impl.ExprNot && own == "bool":
		return boolOutcome(kid.text == "false")
	case n.Kind == impl.ExprNeg && own == "num":
		return toldOutcome{text: impl.AtomText(numAtom(wrapped(new(big.Int).Neg(numberIn(kid.text)))))}
	case n.Kind == impl.ExprNeg && own == "dec":
		return toldOutcome{text: impl.AtomText(decAtom(wrapped(new(big.Int).Neg(numberIn(kid.text)))))}
	case n.Kind == impl.ExprLike && own == "text":
		return boolOutcome(likeByWords(valueOf(kid.text).Atom.Text, n.Text))
	case n.Kind == impl.ExprIs && own == "ref":
		return boolOutcome(strings.HasPrefix(kid.text, n.Text+"::"))
	}
	return toldOutcome{fault: 1}
}

// countsOfPairs are what pairs that count make of two numbers.
var countsOfPairs = map[int]func(z, x, y *big.Int) *big.Int{
	impl.ExprPlus:  (*big.Int).Add,
	impl.ExprMinus: (*big.Int).Sub,
	impl.ExprTimes: (*big.Int).Mul,
}

// orderByWords is below, at or above 0 for two texts of one form.
func orderByWords(form string, first string, second string) int {
	if form == "text" {
		return strings.Compare(valueOf(first).Atom.Text, valueOf(second).Atom.Text)
	}
	return numberIn(first).Cmp(numberIn(second))
}

func withinByWords(first string, second string) bool {
	in, out := netip.MustParsePrefix(first), netip.MustParsePrefix(second)
	return in.Bits() >= out.Bits() && out.Contains(in.Addr())
}

// isAboveByWords asks for any of the texts.
func (s wordScene) isAboveByWords(ref string, texts []string) bool {
	return slices.ContainsFunc(ancestorsByWords(s.list, valueOf(ref).Atom), func(a impl.Atom) bool { return slices.Contains(texts, impl.AtomText(a)) })
}

// pair is an expression of two sides, none of which is a fault; ExprAnd and ExprOr are not asked.
func (s wordScene) pair(n impl.Expr, first string, second string) toldOutcome {
	one, two := formOf(first), formOf(second)
	var refs []string
	switch {
	case two == "ref":
		refs = []string{second}
	case two == "set":
		refs = itemTexts(second)
	}
	onlyRefs := !slices.ContainsFunc(refs, func(text string) bool { return formOf(text) != "ref" })
	ordered := one == two && slices.Contains([]string{"num", "text", "dec", "time"}, one)
	count, counts := countsOfPairs[n.Kind]
	switch {
	case n.Kind == impl.ExprSame:
		return boolOutcome(first == second)
	case n.Kind == impl.ExprLess && ordered:
		return boolOutcome(orderByWords(one, first, second) < 0)
	case n.Kind == impl.ExprMost && ordered:
		return boolOutcome(orderByWords(one, first, second) <= 0)
	case counts && one == "num" && two == "num":
		return toldOutcome{text: impl.AtomText(numAtom(wrapped(count(new(big.Int), numberIn(first), numberIn(second)))))}
	case counts && one == "dec" && two == "dec" && n.Kind != impl.ExprTimes:
		return toldOutcome{text: impl.AtomText(decAtom(wrapped(count(new(big.Int), numberIn(first), numberIn(second)))))}
	case n.Kind == impl.ExprIn && one == "ref" && (two == "ref" || two == "set") && onlyRefs:
		return boolOutcome(s.isAboveByWords(first, refs))
	case n.Kind == impl.ExprContains && one == "set" && two != "set":
		return boolOutcome(slices.Contains(itemTexts(first), second))
	case n.Kind == impl.ExprWithin && one == "addr" && two == "addr":
		return boolOutcome(withinByWords(first, second))
	}
	return toldOutcome{fault: 1}
}

// node has the outcomes of all its kids, and takes no account of those that are not evaluated.
func (s wordScene) node(n impl.Expr, kids []toldOutcome) toldOutcome {
	if n.Kind == impl.ExprSet {
		var items []impl.Atom
		for _, kid := range kids {
			items = append(items, valueOf(kid.text).Atom)
		}
		return toldOutcome{text: impl.ValueText(impl.SetOf(items))}
	}
	if len(kids) == 0 {
		refs := map[string]impl.Atom{"": n.Atom, "principal": s.request.Principal, "action": s.request.Action, "resource": s.request.Resource}
		if n.Text == "context" {
			return toldOutcome{fault: 1, context: true}
		}
		return toldOutcome{text: impl.AtomText(refs[n.Text])}
	}
	asked := n.Kind == impl.ExprGet || n.Kind == impl.ExprHas
	if kids[0].fault > 0 && !(asked && kids[0].context) {
		return toldOutcome{fault: kids[0].fault}
	}
	if len(kids) == 1 {
		return s.single(n, kids[0])
	}
	decides := map[int]string{impl.ExprAnd: "false", impl.ExprOr: "true"}[n.Kind]
	taken := kids[1]
	switch {
	case n.Kind == impl.ExprIf && formOf(kids[0].text) != "bool":
		return toldOutcome{fault: 1}
	case decides != "" && kids[0].text == decides:
		return boolOutcome(decides == "true")
	case n.Kind == impl.ExprIf && kids[0].text == "false":
		taken = kids[2]
	}
	switch {
	case taken.fault > 0:
		return toldOutcome{fault: taken.fault}
	case n.Kind == impl.ExprIf:
		return taken
	case decides == "":
		return s.pair(n, kids[0].text, kids[1].text)
	case formOf(kids[0].text) != "bool" || formOf(kids[1].text) != "bool":
		return toldOutcome{fault: 1}
	}
	return taken
}

// evalByWords answers the text of the value.
func evalByWords(list []impl.Thing, r impl.Request, e []impl.Expr) (string, int) {
	if !goodThingsByWords(list) || !goodRequestByWords(r) || !goodExprByWords(e) {
		return "", 1
	}
	return wordScene{list, r}.eval(e)
}

// eval takes a good expression.
func (s wordScene) eval(e []impl.Expr) (string, int) {
	var stack []toldOutcome
	for i := len(e) - 1; i >= 0; i-- {
		left := len(stack) - e[i].Kids
		kids := slices.Clone(stack[left:])
		slices.Reverse(kids)
		stack = append(stack[:left], s.node(e[i], kids))
	}
	return stack[0].text, stack[0].fault
}

// policyByScene is what a good policy does: `applies`, `faulty` or nothing.
func (s wordScene) policyByScene(p impl.Policy) string {
	for _, c := range []struct {
		head impl.Head
		ref  impl.Atom
	}{{p.Principal, s.request.Principal}, {p.Action, s.request.Action}, {p.Resource, s.request.Resource}} {
		if !headMatchesByWords(s.list, c.head, c.ref) {
			return ""
		}
	}
	text := "true"
	if len(p.When) > 0 {
		text, _ = s.eval(p.When)
	}
	if what, ok := map[string]string{"true": "applies", "false": ""}[text]; ok {
		return what
	}
	return "faulty"
}

func decideByWords(list []impl.Thing, r impl.Request, policies []impl.Policy) impl.Decision {
	var ids []string
	for _, p := range policies {
		if !goodPolicyByWords(p) {
			return impl.Decision{}
		}
		ids = append(ids, p.Id)
	}
	if !goodThingsByWords(list) || !goodRequestByWords(r) || len(ids) > 40 || !risesByWords(ids) {
		return impl.Decision{}
	}
	found := map[string][]string{}
	for _, p := range policies {
		what := wordScene{list, r}.policyByScene(p)
		if what == "applies" && !p.Permit {
			what = "forbids"
		}
		found[what] = append(found[what], p.Id)
	}
	d := impl.Decision{By: found["forbids"], Faulty: found["faulty"]}
	if len(d.By) == 0 {
		d.By = found["applies"]
		d.Allow = len(d.By) > 0
	}
	return d
}

func sameDecision(a impl.Decision, b impl.Decision) bool {
	return a.Allow == b.Allow && slices.Equal(a.By, b.By) && slices.Equal(a.Faulty, b.Faulty)
}
