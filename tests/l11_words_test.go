package tests

import (
	"regexp"
	"slices"
	"strings"

	"loop.example/g00036/impl"
)

// What the document says of chapter 11, worked out in other ways than the program's: kinds by patterns of texts, worlds by a list of all that is wrong in them, expressions from their last node to the first, with a table of the kinds that go together, each with what must be there for it to have a kind.

var kindForm = regexp.MustCompile(`^(set )?(?:bool|num|text|dec|addr|time|ref ([a-zA-Z_][a-zA-Z0-9_]{0,29}))$`)

// formsOfAtoms are how the texts of atoms look, for each kind but that of refs.
var formsOfAtoms = map[string]*regexp.Regexp{
	"bool": regexp.MustCompile(`^(true|false)$`),
	"num":  regexp.MustCompile(`^-?[0-9]+$`),
	"text": regexp.MustCompile(`^"`),
	"dec":  regexp.MustCompile(`^-?[0-9]+\.[0-9]{4}$`),
	"addr": regexp.MustCompile(`^[0-9.]+/[0-9]+$`),
	"time": regexp.MustCompile(`^@`),
}

// refKeys are texts that rise just if the refs do; false where one is no good ref.
func refKeys(refs []impl.Atom) ([]string, bool) {
	var keys []string
	for _, ref := range refs {
		if !goodRefByWords(ref) {
			return nil, false
		}
		keys = append(keys, ref.Type+"\x00"+ref.Text)
	}
	return keys, true
}

func goodFieldsByWords(names []string, values []impl.Value) bool {
	if len(names) > 20 || len(names) != len(values) || !risesByWords(names) {
		return false
	}
	for i, name := range names {
		text := impl.ValueText(values[i])
		if !changeName.MatchString(name) || text == "" || text[0] == '{' {
			return false
		}
	}
	return true
}

func goodThingsByWords(list []impl.Thing) bool {
	var refs []impl.Atom
	for _, t := range list {
		parents, ok := refKeys(t.Parents)
		if !ok || len(parents) > 50 || !risesByWords(parents) || !goodFieldsByWords(t.Names, t.Values) {
			return false
		}
		refs = append(refs, t.Ref)
	}
	keys, ok := refKeys(refs)
	return ok && len(keys) <= 100 && risesByWords(keys)
}

func goodRequestByWords(r impl.Request) bool {
	_, ok := refKeys([]impl.Atom{r.Principal, r.Action, r.Resource})
	return ok && goodFieldsByWords(r.Names, r.Values)
}

func thingNames(s impl.PolSchema) []string {
	var names []string
	for _, t := range s.Things {
		names = append(names, t.Name)
	}
	return names
}

func actionIds(s impl.PolSchema) []string {
	var ids []string
	for _, a := range s.Actions {
		ids = append(ids, a.Id)
	}
	return ids
}

func areNamesOf(names []string, types []string) bool {
	return risesByWords(names) && !slices.ContainsFunc(names, func(name string) bool { return !slices.Contains(types, name) })
}

func goodAttrsByWords(attrs []impl.AttrKind, types []string) bool {
	var names []string
	for _, a := range attrs {
		found := kindForm.FindStringSubmatch(a.Kind)
		if found == nil || found[2] != "" && !slices.Contains(types, found[2]) || !changeName.MatchString(a.Name) {
			return false
		}
		names = append(names, a.Name)
	}
	return len(names) <= 20 && risesByWords(names)
}

func goodPolSchemaByWords(s impl.PolSchema) bool {
	types, ids := thingNames(s), actionIds(s)
	if len(types) > 20 || len(ids) > 20 || !risesByWords(types) || !risesByWords(ids) || slices.Contains(types, "Action") {
		return false
	}
	for _, t := range s.Things {
		if !changeName.MatchString(t.Name) || !areNamesOf(t.Ups, types) || !goodAttrsByWords(t.Attrs, types) {
			return false
		}
	}
	for _, a := range s.Actions {
		both := len(a.Principals) > 0 && len(a.Resources) > 0
		if !policyId.MatchString(a.Id) || !both || !areNamesOf(a.Principals, types) || !areNamesOf(a.Resources, types) || !goodAttrsByWords(a.Context, types) {
			return false
		}
	}
	return true
}

// textIsOfKind says whether it is the text of an atom of a kind that is no set's.
func textIsOfKind(text string, kind string) bool {
	if typ, ok := strings.CutPrefix(kind, "ref "); ok {
		return strings.HasPrefix(text, typ+"::")
	}
	return formsOfAtoms[kind].MatchString(text)
}

func fitsKindByWords(v impl.Value, kind string) bool {
	text := impl.ValueText(v)
	found := kindForm.FindStringSubmatch(kind)
	if text == "" || found == nil {
		return false
	}
	if found[1] == "" {
		return text[0] != '[' && text[0] != '{' && textIsOfKind(text, kind)
	}
	return text[0] == '[' && !slices.ContainsFunc(v.Items, func(a impl.Atom) bool { return !textIsOfKind(impl.AtomText(a), kind[len("set "):]) })
}

// fieldFaults tells what is wrong with good fields beside a list of attributes; there are the texts of the refs that are there.
func fieldFaults(attrs []impl.AttrKind, names []string, values []impl.Value, there []string) []string {
	var faults []string
	for _, a := range attrs {
		if a.Must && !slices.Contains(names, a.Name) {
			faults = append(faults, "no "+a.Name)
		}
	}
	for i, name := range names {
		at := slices.IndexFunc(attrs, func(a impl.AttrKind) bool { return a.Name == name })
		if at < 0 {
			faults = append(faults, "no attribute "+name)
			continue
		}
		if !fitsKindByWords(values[i], attrs[at].Kind) {
			faults = append(faults, name+" of another kind")
		}
		for _, a := range append([]impl.Atom{values[i].Atom}, values[i].Items...) {
			if a.Kind == impl.RefAtom && !slices.Contains(there, impl.AtomText(a)) {
				faults = append(faults, name+" not there")
			}
		}
	}
	return faults
}

// placeFaults tells what is wrong with a ref that must be there and of one of the Types.
func placeFaults(ref impl.Atom, types []string, there []string) []string {
	var faults []string
	if !slices.Contains(there, impl.AtomText(ref)) {
		faults = append(faults, impl.AtomText(ref)+" not there")
	}
	if !slices.Contains(types, ref.Type) {
		faults = append(faults, impl.AtomText(ref)+" of another Type")
	}
	return faults
}

// worldFaults are all that is wrong in a world whose schema, things and request are good.
func worldFaults(s impl.PolSchema, list []impl.Thing, r impl.Request) []string {
	var faults, there []string
	for _, t := range list {
		there = append(there, impl.AtomText(t.Ref))
	}
	for _, t := range list {
		at := slices.Index(thingNames(s), t.Ref.Type)
		if at < 0 {
			faults = append(faults, "no Type "+t.Ref.Type)
			continue
		}
		for _, p := range t.Parents {
			faults = append(faults, placeFaults(p, s.Things[at].Ups, there)...)
		}
		faults = append(faults, fieldFaults(s.Things[at].Attrs, t.Names, t.Values, there)...)
	}
	if r.Action.Type != "Action" {
		faults = append(faults, "no action")
	}
	at := slices.Index(actionIds(s), r.Action.Text)
	if at < 0 {
		return append(faults, "no Action "+r.Action.Text)
	}
	own := s.Actions[at]
	faults = append(faults, placeFaults(r.Principal, own.Principals, there)...)
	faults = append(faults, placeFaults(r.Resource, own.Resources, there)...)
	return append(faults, fieldFaults(own.Context, r.Names, r.Values, there)...)
}

func goodWorldByWords(s impl.PolSchema, list []impl.Thing, r impl.Request) bool {
	return goodPolSchemaByWords(s) && goodThingsByWords(list) && goodRequestByWords(r) && len(worldFaults(s, list, r)) == 0
}

// kindRow is a kind of nodes with the kinds of its kids, the last two of an ExprIf's, the second one empty where there is one kid.
type kindRow struct {
	node   int
	first  string
	second string
}

// kindTables are kept by the Types that may come.
var kindTables = map[string]map[kindRow]string{}

// kindTable has the kind of each node whose kids go together. It has no row for others, and none where the kind hangs on more.
func kindTable(types []string) map[kindRow]string {
	key := strings.Join(types, " ")
	if table, ok := kindTables[key]; ok {
		return table
	}
	table := map[kindRow]string{}
	add := func(result string, first string, second string, nodes ...int) {
		for _, node := range nodes {
			table[kindRow{node, first, second}] = result
		}
	}
	items := []string{"bool", "num", "text", "dec", "addr", "time"}
	var refs []string
	for _, typ := range types {
		items = append(items, "ref "+typ)
		refs = append(refs, "ref "+typ, "lit "+typ)
		add("lit "+typ, "lit "+typ, "lit "+typ, impl.ExprIf)
		add("lit "+typ, "ref "+typ, "lit "+typ, impl.ExprIf)
		add("lit "+typ, "lit "+typ, "ref "+typ, impl.ExprIf)
		add("bool", "set ref "+typ, "lit "+typ, impl.ExprContains)
	}
	for _, kind := range items {
		add(kind, kind, kind, impl.ExprIf)
		add("set "+kind, "set "+kind, "set "+kind, impl.ExprIf)
		add("bool", kind, kind, impl.ExprSame)
		add("bool", "set "+kind, "set "+kind, impl.ExprSame)
		add("bool", "set "+kind, kind, impl.ExprContains)
	}
	for _, first := range refs {
		add("bool", first, "", impl.ExprHas, impl.ExprIs)
		for _, second := range refs {
			add("bool", first, second, impl.ExprSame, impl.ExprIn)
		}
		for _, typ := range types {
			add("bool", first, "set ref "+typ, impl.ExprIn)
		}
	}
	for _, kind := range []string{"num", "text", "dec", "time"} {
		add("bool", kind, kind, impl.ExprLess, impl.ExprMost)
	}
	for _, kind := range []string{"num", "dec"} {
		add(kind, kind, kind, impl.ExprPlus, impl.ExprMinus)
		add(kind, kind, "", impl.ExprNeg)
	}
	add("num", "num", "num", impl.ExprTimes)
	add("bool", "bool", "bool", impl.ExprAnd, impl.ExprOr)
	add("bool", "addr", "addr", impl.ExprWithin)
	add("bool", "bool", "", impl.ExprNot)
	add("bool", "text", "", impl.ExprLike)
	add("bool", "context", "", impl.ExprHas)
	kindTables[key] = table
	return table
}

// lookedAt is a tree that is whole: what kind it has where all that it needs is there, what that is, and what it adds.
type lookedAt struct {
	kind  string
	needs map[string]bool
	adds  map[string]bool
	side  toldSide
}

// kindCase is what the parts of a request are of.
type kindCase struct {
	schema    impl.PolSchema
	principal string
	action    string
	resource  string
}

func eitherOf(a map[string]bool, b map[string]bool) map[string]bool {
	out := map[string]bool{}
	for _, m := range []map[string]bool{a, b} {
		for text := range m {
			out[text] = true
		}
	}
	return out
}

func bothOf(a map[string]bool, b map[string]bool) map[string]bool {
	out := map[string]bool{}
	for text := range a {
		if b[text] {
			out[text] = true
		}
	}
	return out
}

func leftOf(a map[string]bool, b map[string]bool) map[string]bool {
	out := map[string]bool{}
	for text := range a {
		if !b[text] {
			out[text] = true
		}
	}
	return out
}

func (c kindCase) attrsByKind(kind string) []impl.AttrKind {
	if kind == "context" {
		return c.schema.Actions[slices.Index(actionIds(c.schema), c.action)].Context
	}
	for _, t := range c.schema.Things {
		if kind == "ref "+t.Name {
			return t.Attrs
		}
	}
	return nil
}

// leaf is an expression of no kids, or an ExprSet.
func (c kindCase) leaf(n impl.Expr, kids []lookedAt) string {
	switch {
	case n.Kind == impl.ExprLit && n.Atom.Kind == impl.RefAtom:
		return "lit " + n.Atom.Type
	case n.Kind == impl.ExprLit:
		return wordsOfKinds[n.Atom.Kind]
	case n.Kind == impl.ExprVar:
		return map[string]string{"principal": "ref " + c.principal, "resource": "ref " + c.resource, "action": "lit Action", "context": "context"}[n.Text]
	}
	kinds := map[string]bool{}
	for _, kid := range kids {
		kinds["set "+strings.Replace(kid.kind, "lit ", "ref ", 1)] = true
	}
	for kind := range kinds {
		if len(kinds) == 1 {
			return kind
		}
	}
	return ""
}

func (c kindCase) get(n impl.Expr, kid lookedAt) lookedAt {
	out := lookedAt{needs: kid.needs}
	for _, a := range c.attrsByKind(kid.kind) {
		if a.Name != n.Text {
			continue
		}
		out.kind = a.Kind
		if !a.Must {
			out.needs = eitherOf(kid.needs, map[string]bool{kid.side.text + "." + n.Text: true})
		}
	}
	return out
}

// inner is an expression of kids that are no ExprLit's alone.
func (c kindCase) inner(n impl.Expr, kids []lookedAt, table map[kindRow]string) lookedAt {
	first, last := kids[0], kids[len(kids)-1]
	out := lookedAt{kind: table[kindRow{n.Kind, first.kind, last.kind}], needs: eitherOf(first.needs, last.needs)}
	if len(kids) == 1 {
		out.kind = table[kindRow{n.Kind, first.kind, ""}]
	}
	switch n.Kind {
	case impl.ExprHas:
		if first.side.kind == impl.ExprVar || first.side.kind == impl.ExprGet {
			out.adds = map[string]bool{first.side.text + "." + n.Text: true}
		}
	case impl.ExprAnd:
		out.needs = eitherOf(first.needs, leftOf(last.needs, first.adds))
		out.adds = eitherOf(first.adds, last.adds)
	case impl.ExprOr:
		out.adds = bothOf(first.adds, last.adds)
	case impl.ExprIf:
		out.kind = ""
		if first.kind == "bool" {
			out.kind = table[kindRow{n.Kind, kids[1].kind, last.kind}]
		}
		out.needs = eitherOf(out.needs, leftOf(kids[1].needs, first.adds))
	}
	return out
}

// look takes a good expression, and what the schema has.
func (c kindCase) look(e []impl.Expr) lookedAt {
	types := append(thingNames(c.schema), "Action")
	for _, n := range e {
		if n.Atom.Kind == impl.RefAtom && !slices.Contains(types, n.Atom.Type) {
			types = append(types, n.Atom.Type)
		}
	}
	table := kindTable(types)
	var stack []lookedAt
	for i := len(e) - 1; i >= 0; i-- {
		left := len(stack) - e[i].Kids
		kids := slices.Clone(stack[left:])
		slices.Reverse(kids)
		var own lookedAt
		switch {
		case e[i].Kind == impl.ExprSet || len(kids) == 0:
			own.kind = c.leaf(e[i], kids)
		case e[i].Kind == impl.ExprGet:
			own = c.get(e[i], kids[0])
		default:
			own = c.inner(e[i], kids, table)
		}
		var sides []toldSide
		for _, kid := range kids {
			sides = append(sides, kid.side)
		}
		own.side = toldSide{exprNodeText(e[i], sides), e[i].Kind}
		stack = append(stack[:left], own)
	}
	return stack[0]
}

// kind takes a good expression, and what the schema has.
func (c kindCase) kind(e []impl.Expr) string {
	whole := c.look(e)
	if len(whole.needs) > 0 {
		return ""
	}
	return whole.kind
}

func kindOfByWords(s impl.PolSchema, e []impl.Expr, principal string, action string, resource string) string {
	types := thingNames(s)
	known := slices.Contains(types, principal) && slices.Contains(types, resource) && slices.Contains(actionIds(s), action)
	if !known || !goodPolSchemaByWords(s) || !goodExprByWords(e) {
		return ""
	}
	return kindCase{s, principal, action, resource}.kind(e)
}

// mayMatchByWords looks for the Type that a head tells; the empty text where it tells none.
func mayMatchByWords(h impl.Head, typ string) bool {
	told := h.Type
	if h.Kind == impl.HeadSame {
		told = h.Atom.Type
	}
	return told == "" || told == typ
}

// mayMatchIdByWords goes by the text that a head has in a policy.
func mayMatchIdByWords(h impl.Head, id string) bool {
	text := headForms[h.Kind] + impl.AtomText(h.Atom) + h.Type
	ref := impl.AtomText(refAtom("Action", id))
	return slices.Contains([]string{"", " is Action", " == " + ref, " in " + ref}, text)
}

func kindFaultsByWords(s impl.PolSchema, p impl.Policy) []string {
	if !goodPolSchemaByWords(s) || !goodPolicyByWords(p) {
		return nil
	}
	var faults []string
	for _, a := range s.Actions {
		// Each pair has a number of its own.
		for i := range len(a.Principals) * len(a.Resources) {
			principal, resource := a.Principals[i/len(a.Resources)], a.Resources[i%len(a.Resources)]
			matches := mayMatchByWords(p.Principal, principal) && mayMatchIdByWords(p.Action, a.Id) && mayMatchByWords(p.Resource, resource)
			if matches && len(p.When) > 0 && (kindCase{s, principal, a.Id, resource}).kind(p.When) != "bool" {
				faults = append(faults, strings.Join([]string{principal, a.Id, resource}, ","))
			}
		}
	}
	return faults
}
