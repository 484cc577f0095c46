package tests

import (
	"fmt"
	"math"
	"math/rand"
	"slices"
	"strings"

	"loop.example/g00036/impl"
)

// litTexts are those of a literal of each kind.
func litTexts() []string {
	return []string{"true", "false", "1", "-1", `"a"`, `""`, `User::"ann"`, `Action::"view"`, "1.0000", "10.0.0.0/8", "@1"}
}

// fragmentTexts are expressions that are in the fragment, each of one test.
func fragmentTexts() []string {
	texts := []string{
		"true", "false",
		"principal.a", "resource.a", "context.a", "principal.principal", "context.context",
		"principal has a", "resource has a", "context has a",
		"principal is User", "resource is User", "principal is Action", "resource is Nobody",
	}
	for _, lit := range litTexts() {
		for _, part := range []string{"principal", "resource", "context"} {
			field := part + ".a"
			texts = append(texts, field+" == "+lit, lit+" == "+field, field+" < "+lit, lit+" < "+field, field+" <= "+lit, lit+" <= "+field, field+" contains "+lit)
		}
		for _, part := range []string{"principal", "resource", "action"} {
			texts = append(texts, part+" == "+lit, part+" in "+lit)
		}
	}
	return texts
}

// outsideTexts are expressions that are not in the fragment, most of them by little.
func outsideTexts() []string {
	texts := []string{
		"principal", "resource", "action", "context", "[]", "[true]",
		"action.a", "action has a", "action is Action", "context is User", "action.a == 1", "1 == action.a", "action.a < 1", "action.a contains 1",
		"principal.a.b", "context.a.b", "principal.a.b == 1", "1 == principal.a.b", "principal.a.b < 1", "principal.a.b contains 1", "principal.a has b", "context.a has b", "principal.a is User", "context.a is User",
		`(User::"ann").a`, `(User::"ann").a == 1`, `1 < (User::"ann").a`, `(User::"ann").a contains 1`, `User::"ann" has a`, `User::"ann" is User`, "(if true then principal else resource).a", "(if true then principal else resource) has a", "(if true then principal else resource) is User",
		"principal == resource", "resource == principal", "principal == principal", "principal == action", "principal == principal.a", "principal.a == principal", "principal == context", "context == principal", "action == action", "principal in resource", "resource in principal.a", "action in action",
		"principal.a == principal.a", "principal.a == resource.a", "principal.a < resource.a", "context.a <= principal.a", "principal.a contains principal.a", "principal.a contains principal", "principal.a in principal.a",
		"principal in []", `principal in [User::"ann"]`, `resource in [User::"ann"]`, "principal == []", "[] == principal", "principal.a == []", "[1] == principal.a", "principal.a < [1]", "principal.a contains []", "[1] contains 1", "[1] contains principal.a", "principal.a in [1]",
		"principal.a + 1", "principal.a + 1 == 2", "principal.a == 1 + 1", "1 + 1 == principal.a", "principal.a - 1 < 2", "principal.a * 2 <= 2", "-principal.a", "-principal.a == 1", "principal.a == -(1)", "-(1) == principal.a", "-(1)", "1 + 2",
		`principal.a like "*"`, `principal like "*"`, "principal.a within 10.0.0.0/8", "10.0.0.0/8 within principal.a", "10.0.0.0/8 within 10.0.0.0/8",
		"(principal.a == 1) == true", "true == (principal.a == 1)", "!true == false", "principal.a == !true", "(principal has a) == true", "(principal is User) == true", "(if true then principal.a else principal.b) == 1", "(if true then 1 else 2) == principal.a", "(principal.a && true) == true", "principal.a contains (1 == 1)",
	}
	for _, lit := range litTexts() {
		if lit != "true" && lit != "false" {
			texts = append(texts, lit)
		}
		for _, part := range []string{"principal", "resource", "action"} {
			texts = append(texts, lit+" == "+part, lit+" in "+part, part+" < "+lit, part+" <= "+lit, lit+" < "+part, lit+" <= "+part, part+" contains "+lit, lit+" contains "+part)
		}
		for _, part := range []string{"principal", "resource", "context", "action"} {
			texts = append(texts, lit+" contains "+part+".a", part+".a in "+lit, lit+" in "+part+".a", lit+" within "+part+".a")
		}
		texts = append(texts, "context == "+lit, lit+" == context", "context in "+lit, "context < "+lit, "context contains "+lit, lit+" == "+lit, lit+" < "+lit, lit+" in "+lit, lit+" contains "+lit)
	}
	return texts
}

// whensOf are policies that permit, one for each of the Whens, with Ids that rise.
func whensOf(whens ...string) []impl.Policy {
	var policies []impl.Policy
	for i, when := range whens {
		p := plainPolicy(fmt.Sprint("p", 100+i))
		if when != "" {
			p.When = exprText(when)
		}
		policies = append(policies, p)
	}
	return policies
}

// lawn has a User who may view a Doc; the attributes are those of the part that is told.
func lawn(part string, attrs string) impl.PolSchema {
	all := map[string]string{part: attrs}
	return impl.PolSchema{
		Things:  []impl.ThingType{thingType("Doc", "", all["resource"]), thingType("Team", "", ""), thingType("User", "Team", all["principal"])},
		Actions: []impl.ActionType{actionTypeOf("view", "User", "Doc", all["context"])},
	}
}

// anyOf is one expression that asks for one of the texts, as flat as may be.
func anyOf(texts []string) []impl.Expr {
	var tests [][]impl.Expr
	for _, text := range texts {
		tests = append(tests, exprText(text))
	}
	for len(tests) > 1 {
		var half [][]impl.Expr
		for i := 0; i+1 < len(tests); i += 2 {
			half = append(half, exprOf(impl.ExprOr, "", tests[i], tests[i+1]))
		}
		tests = append(half, tests[len(tests)/2*2:]...)
	}
	return tests[0]
}

// manyTests are policies that have all of the tests, twelve each.
func manyTests(texts []string) []impl.Policy {
	var policies []impl.Policy
	for i, part := range slices.Collect(slices.Chunk(texts, 12)) {
		p := plainPolicy(fmt.Sprint("p", 100+i))
		p.When = anyOf(part)
		policies = append(policies, p)
	}
	return policies
}

// numberTests hold a field against so many numbers, one behind the other.
func numberTests(field string, from int, many int) []string {
	var texts []string
	for i := range many {
		texts = append(texts, fmt.Sprintf("%s < %d", field, from+i))
	}
	return texts
}

// otherTests hold a field against `other`, `other_` and so on of a Type, so many of them.
func otherTests(field string, typ string, many int) []string {
	var texts []string
	for i := range many {
		texts = append(texts, field+` == `+typ+`::"other`+strings.Repeat("_", i)+`"`)
	}
	return texts
}

// yardDrawer draws schemas, policies in the fragment and good worlds, with few names.
type yardDrawer struct {
	from *rand.Rand
}

// yardKinds are the kinds of a field; those that make few cases come more often.
func yardKinds() []string {
	return []string{"bool", "num", "num", "text", "text", "dec", "addr", "time", "ref User", "ref Doc", "ref Team", "set num", "set text", "set bool", "set ref User", "set ref Box", "set addr", "set dec", "set time"}
}

// yardLits are literals of a kind that is no set's, few of each.
func yardLits(kind string) []string {
	return map[string][]string{
		"bool":     {"false", "true"},
		"num":      {"1", "2", "5", "-9223372036854775808", "9223372036854775807"},
		"text":     {`""`, `"a"`, `"a "`, `"b"`, `"` + strings.Repeat("~", impl.MaxText) + `"`, `"` + strings.Repeat("b", impl.MaxText) + `"`},
		"dec":      {"0.0000", "0.0001", "-1.5000", "922337203685477.5807"},
		"addr":     {"0.0.0.0/0", "0.0.0.0/1", "10.0.0.0/8"},
		"time":     {"@0", "@-100000000000", "@100000000000"},
		"ref User": {`User::"ann"`, `User::"bob"`, `User::"other"`},
		"ref Doc":  {`Doc::"d"`, `Doc::"other_"`},
		"ref Team": {`Team::"t"`},
		"ref Box":  {`Box::"b"`, `Box::"other"`},
	}[kind]
}

func (d yardDrawer) attrs(most int) []impl.AttrKind {
	var attrs []impl.AttrKind
	for _, name := range []string{"a", "b", "c"} {
		if len(attrs) < most && d.from.Intn(2) == 0 {
			attrs = append(attrs, impl.AttrKind{Name: name, Kind: oneOf(d.from, yardKinds()), Must: d.from.Intn(2) == 0})
		}
	}
	return attrs
}

func (d yardDrawer) schema() impl.PolSchema {
	s := impl.PolSchema{Things: []impl.ThingType{
		{Name: "Box", Ups: []string{"Box"}, Attrs: d.attrs(1)},
		{Name: "Doc", Ups: []string{"Box", "Doc"}, Attrs: d.attrs(2)},
		{Name: "Team", Ups: []string{"Doc", "Team"}, Attrs: d.attrs(1)},
		{Name: "User", Ups: []string{"Team", "User"}, Attrs: d.attrs(2)},
	}}
	for _, id := range []string{"edit", "view"}[d.from.Intn(2):] {
		s.Actions = append(s.Actions, impl.ActionType{
			Id:         id,
			Principals: oneOf(d.from, [][]string{{"User"}, {"User"}, {"Team", "User"}}),
			Resources:  oneOf(d.from, [][]string{{"Doc"}, {"Doc"}, {"Box", "Doc"}}),
			Context:    d.attrs(1),
		})
	}
	return s
}

// upsOf are refs of which a part of that word may be below, and a few of which it may not.
func (d yardDrawer) up(word string) string {
	if word == "principal" {
		return oneOf(d.from, []string{`Team::"t"`, `Team::"u"`, `User::"ann"`, `Doc::"d"`})
	}
	return oneOf(d.from, []string{`Box::"b"`, `Doc::"d"`, `Box::"c"`})
}

func (d yardDrawer) own(word string) string {
	if word == "principal" {
		return oneOf(d.from, []string{`User::"ann"`, `User::"bob"`, `Team::"t"`, `User::"other"`})
	}
	return oneOf(d.from, []string{`Doc::"d"`, `Doc::"other_"`, `Box::"b"`})
}

// fieldTest holds a field of which the kind is known against a literal that is mostly of that kind.
func (d yardDrawer) fieldTest(field string, kind string) string {
	item := strings.TrimPrefix(kind, "set ")
	lit := oneOf(d.from, yardLits(item))
	switch pick := d.from.Intn(12); {
	case pick == 0:
		lit = oneOf(d.from, litTexts())
	case kind == "bool" && pick < 6:
		return field
	case item != kind && pick < 11:
		return field + " contains " + lit
	}
	return oneOf(d.from, []string{field + " == " + lit, lit + " == " + field, field + " < " + lit, lit + " < " + field, field + " <= " + lit, lit + " <= " + field})
}

// attrsByWord are the attributes that a part of that word may have, of any Type.
func attrsByWord(s impl.PolSchema, word string) []impl.AttrKind {
	var attrs []impl.AttrKind
	for _, a := range s.Actions {
		types := map[string][]string{"principal": a.Principals, "resource": a.Resources}[word]
		for _, t := range s.Things {
			if slices.Contains(types, t.Name) {
				attrs = append(attrs, t.Attrs...)
			}
		}
		if word == "context" {
			attrs = append(attrs, a.Context...)
		}
	}
	return attrs
}

// leaf draws one test of the fragment.
func (d yardDrawer) leaf(s impl.PolSchema) string {
	word := oneOf(d.from, []string{"principal", "resource", "context"})
	attrs := attrsByWord(s, word)
	switch pick := d.from.Intn(20); {
	case pick < 2 && word != "context":
		return word + " == " + d.own(word)
	case pick < 4 && word != "context":
		return word + " in " + d.up(word)
	case pick == 4 && word != "context":
		return word + " is " + oneOf(d.from, []string{"User", "Team", "Doc"})
	case pick == 5:
		return oneOf(d.from, []string{"true", "false", `action == Action::"view"`, `action in Action::"edit"`, `action == 1`, "principal.zip", "context.zip == 1", "resource has zip", "principal in 5"})
	case len(attrs) > 0 && pick < 9:
		return word + " has " + oneOf(d.from, attrs).Name
	case len(attrs) > 0:
		a := oneOf(d.from, attrs)
		return d.fieldTest(word+"."+a.Name, a.Kind)
	}
	return "true"
}

// test draws an expression of the fragment.
func (d yardDrawer) test(s impl.PolSchema, within int) []impl.Expr {
	kid := func() []impl.Expr { return d.test(s, within-1) }
	switch pick := d.from.Intn(8); {
	case within == 1 || pick < 2:
		return exprText(d.leaf(s))
	case pick == 2:
		return notExpr(kid())
	case pick == 3:
		return ifExpr(kid(), kid(), kid())
	}
	return exprOf(oneOf(d.from, []int{impl.ExprAnd, impl.ExprOr}), "", kid(), kid())
}

func (d yardDrawer) head(word string) impl.Head {
	switch d.from.Intn(7) {
	case 0:
		return impl.Head{Kind: impl.HeadSame, Atom: valueOf(d.own(word)).Atom}
	case 1:
		return impl.Head{Kind: impl.HeadIn, Atom: valueOf(d.up(word)).Atom}
	case 2:
		return isHead(oneOf(d.from, map[string][]string{"principal": {"User", "Team"}, "resource": {"Doc", "Box"}}[word]))
	}
	return anyHead()
}

func (d yardDrawer) policies(s impl.PolSchema, many int) []impl.Policy {
	var policies []impl.Policy
	for i := range many {
		p := impl.Policy{Id: fmt.Sprint("p", 100+i), Permit: d.from.Intn(3) > 0, Principal: d.head("principal"), Action: anyHead(), Resource: d.head("resource")}
		if d.from.Intn(6) == 0 {
			p.Action = oneOf(d.from, []impl.Head{refHead(impl.HeadSame, "Action", "view"), refHead(impl.HeadIn, "Action", "edit"), isHead("Action")})
		}
		if d.from.Intn(6) > 0 {
			p.When = d.test(s, 1+d.from.Intn(3))
		}
		policies = append(policies, p)
	}
	return policies
}

// atom draws one of a kind that is no set's, near the literals of the kind; a ref is one of those that are there.
func (d yardDrawer) atom(kind string, there []impl.Atom) impl.Atom {
	if typ, ok := strings.CutPrefix(kind, "ref "); ok {
		own := slices.DeleteFunc(slices.Clone(there), func(a impl.Atom) bool { return a.Type != typ })
		return oneOf(d.from, own)
	}
	a := valueOf(oneOf(d.from, yardLits(kind))).Atom
	switch kind {
	case "num", "dec":
		a.Num = oneOf(d.from, []int{a.Num, a.Num - 1, a.Num + 1, 0, 3, 4, 7, -40000, math.MinInt + 7, math.MaxInt - 7})
	case "time":
		a.Num = oneOf(d.from, []int{a.Num, a.Num / 2, -1, 1, 77})
	case "text":
		a.Text = oneOf(d.from, []string{a.Text, "", " ", "a!", "ab", "aa", "b ", "c", "~", strings.Repeat("~", impl.MaxText-1), strings.Repeat("b", impl.MaxText-1) + "c", strings.Repeat("b", impl.MaxText-1)})
	case "addr":
		a = oneOf(d.from, []impl.Atom{a, addrAtom(0, 2), addrAtom(0, 32), addrAtom(1<<31, 1), addrAtom(10<<24, 9)})
	}
	return a
}

func (d yardDrawer) value(kind string, there []impl.Atom) impl.Value {
	item, isSet := strings.CutPrefix(kind, "set ")
	if !isSet {
		return atomValue(d.atom(kind, there))
	}
	var items []impl.Atom
	for range d.from.Intn(5) {
		items = append(items, d.atom(item, there))
	}
	return impl.SetOf(items)
}

func (d yardDrawer) fields(attrs []impl.AttrKind, there []impl.Atom) ([]string, []impl.Value) {
	var names []string
	var values []impl.Value
	for _, a := range attrs {
		if a.Must || d.from.Intn(2) == 0 {
			names, values = append(names, a.Name), append(values, d.value(a.Kind, there))
		}
	}
	return names, values
}

// world draws a good one: things that are below each other by several steps, too.
func (d yardDrawer) world(s impl.PolSchema) toldWorld {
	there := refsOf(`Box::"b" Box::"c" Box::"other" Doc::"d" Doc::"e" Doc::"other_" Team::"t" Team::"u" Team::"v" User::"ann" User::"bob" User::"other" User::"zed"`)
	w := toldWorld{schema: s}
	for _, ref := range there {
		own := s.Things[slices.Index(thingNames(s), ref.Type)]
		t := impl.Thing{Ref: ref}
		for _, up := range there {
			if slices.Contains(own.Ups, up.Type) && d.from.Intn(7) == 0 {
				t.Parents = append(t.Parents, up)
			}
		}
		t.Names, t.Values = d.fields(own.Attrs, there)
		w.things = append(w.things, t)
	}
	a := oneOf(d.from, s.Actions)
	w.request = impl.Request{
		Principal: d.atom("ref "+oneOf(d.from, a.Principals), there),
		Action:    refAtom("Action", a.Id),
		Resource:  d.atom("ref "+oneOf(d.from, a.Resources), there),
	}
	w.request.Names, w.request.Values = d.fields(a.Context, there)
	return w
}

// rewritten says the same in other words, wherever it is evaluated.
func (d yardDrawer) rewritten(e []impl.Expr) []impl.Expr {
	kids := kidsOfExpr(e)
	for i := range kids {
		kids[i] = d.rewritten(kids[i])
	}
	same := append([]impl.Expr{e[0]}, slices.Concat(kids...)...)
	twice := e[0].Kind != impl.ExprLit && e[0].Kind != impl.ExprVar && e[0].Kind != impl.ExprGet
	switch pick := d.from.Intn(3); {
	case pick == 0:
		return same
	case e[0].Kind == impl.ExprAnd:
		return notExpr(exprOf(impl.ExprOr, "", notExpr(kids[0]), notExpr(kids[1])))
	case e[0].Kind == impl.ExprOr:
		return notExpr(exprOf(impl.ExprAnd, "", notExpr(kids[0]), notExpr(kids[1])))
	case e[0].Kind == impl.ExprLess:
		return notExpr(exprOf(impl.ExprMost, "", kids[1], kids[0]))
	case e[0].Kind == impl.ExprMost:
		return notExpr(exprOf(impl.ExprLess, "", kids[1], kids[0]))
	case e[0].Kind == impl.ExprIf && pick == 1:
		return ifExpr(notExpr(kids[0]), kids[2], kids[1])
	case pick == 1 && twice && e[0].Kind != impl.ExprIf:
		return notExpr(notExpr(same))
	}
	return same
}

// kidsOfExpr parts what stands behind the first node of a good expression.
func kidsOfExpr(e []impl.Expr) [][]impl.Expr {
	var kids [][]impl.Expr
	rest := e[1:]
	for range e[0].Kids {
		open, at := 1, 0
		for ; open > 0; at++ {
			open += rest[at].Kids - 1
		}
		kids, rest = append(kids, slices.Clone(rest[:at])), rest[at:]
	}
	return kids
}
