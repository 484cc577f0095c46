package tests

import (
	"fmt"
	"math/rand"
	"slices"
	"strconv"
	"strings"

	"loop.example/g00036/impl"
)

// toldWorld is all that GoodWorld takes.
type toldWorld struct {
	schema  impl.PolSchema
	things  []impl.Thing
	request impl.Request
}

// attrsOf are told as `name kind` with a comma between; `!` behind a kind says Must.
func attrsOf(text string) []impl.AttrKind {
	var attrs []impl.AttrKind
	for _, part := range strings.Split(text, ", ") {
		if name, kind, ok := strings.Cut(part, " "); ok {
			bare := strings.TrimSuffix(kind, "!")
			attrs = append(attrs, impl.AttrKind{Name: name, Kind: bare, Must: bare != kind})
		}
	}
	return attrs
}

// thingType takes Ups with blanks between.
func thingType(name string, ups string, attrs string) impl.ThingType {
	return impl.ThingType{Name: name, Ups: strings.Fields(ups), Attrs: attrsOf(attrs)}
}

func actionTypeOf(id string, principals string, resources string, context string) impl.ActionType {
	return impl.ActionType{Id: id, Principals: strings.Fields(principals), Resources: strings.Fields(resources), Context: attrsOf(context)}
}

// valueOf is the value of a text that has one.
func valueOf(text string) impl.Value {
	v, ok := impl.ReadValue(text)
	if !ok {
		panic("no value: " + text)
	}
	return v
}

// fieldsOf are told as `name=value` with a blank between.
func fieldsOf(text string) ([]string, []impl.Value) {
	var names []string
	var values []impl.Value
	for _, part := range strings.Fields(text) {
		name, value, _ := strings.Cut(part, "=")
		names, values = append(names, name), append(values, valueOf(value))
	}
	return names, values
}

func thingOf(ref impl.Atom, fields string, parents ...impl.Atom) impl.Thing {
	t := impl.Thing{Ref: ref, Parents: parents}
	t.Names, t.Values = fieldsOf(fields)
	return t
}

func requestOf(principal impl.Atom, action string, resource impl.Atom, fields string) impl.Request {
	r := impl.Request{Principal: principal, Action: refAtom("Action", action), Resource: resource}
	r.Names, r.Values = fieldsOf(fields)
	return r
}

// lab is a schema with attributes of each kind, some of which must be there and some not.
func lab() impl.PolSchema {
	return impl.PolSchema{
		Things: []impl.ThingType{
			thingType("Box", "Box", "boss ref User"),
			thingType("Doc", "Box Doc", "cost dec, draft bool, due time!, from addr, labels set text, note text, owner ref User!, readers set ref User!, size num!, title text!"),
			thingType("Team", "", ""),
			thingType("User", "Team", "admin bool!, age num!, boss ref User, docs set ref Doc, home addr!, name text!, pay dec!, since time, tags set text!"),
		},
		Actions: []impl.ActionType{
			actionTypeOf("edit", "User", "Doc", "by ref User, from addr, near set ref User, now time!, ok bool"),
			actionTypeOf("move.1", "Team User", "Box Doc", ""),
			actionTypeOf("view", "Team User", "Box Doc User", "now time!"),
		},
	}
}

const annFields = `admin=true age=40 docs=[Doc::"d"] home=10.0.0.0/8 name="Ann" pay=1.5000 tags=["a","b"]`
const bobFields = `admin=false age=3 boss=User::"ann" home=10.1.0.0/16 name="" pay=-2.0000 since=@7 tags=[]`

// labWorld is a good world of lab.
func labWorld() toldWorld {
	box, inner, team := refAtom("Box", "b"), refAtom("Box", "i"), refAtom("Team", "t")
	return toldWorld{
		schema: lab(),
		things: []impl.Thing{
			thingOf(box, `boss=User::"ann"`),
			thingOf(inner, "", box),
			thingOf(refAtom("Doc", "d"), `due=@9 from=10.0.0.0/8 owner=User::"ann" readers=[User::"ann",User::"bob"] size=5 title="A"`, box, inner),
			thingOf(refAtom("Doc", "e"), `cost=1.0000 draft=true due=@9 labels=["x"] note="" owner=User::"bob" readers=[] size=-5 title=""`, refAtom("Doc", "d")),
			thingOf(team, ""),
			thingOf(refAtom("User", "ann"), annFields, team),
			thingOf(refAtom("User", "bob"), bobFields),
		},
		request: requestOf(refAtom("User", "bob"), "edit", refAtom("Doc", "d"), `by=User::"ann" near=[User::"ann"] now=@5`),
	}
}

// putField sets one field; it stays where it is if there is one of that name, and comes to its place otherwise.
func putField(names *[]string, values *[]impl.Value, name string, v impl.Value) {
	at, there := slices.BinarySearch(*names, name)
	if there {
		(*values)[at] = v
		return
	}
	*names, *values = slices.Insert(*names, at, name), slices.Insert(*values, at, v)
}

func takeField(names *[]string, values *[]impl.Value, name string) {
	if at := slices.Index(*names, name); at >= 0 {
		*names, *values = slices.Delete(*names, at, at+1), slices.Delete(*values, at, at+1)
	}
}

// thing is that one of which the text is the ref's.
func (w *toldWorld) thing(text string) *impl.Thing {
	for i := range w.things {
		if impl.AtomText(w.things[i].Ref) == text {
			return &w.things[i]
		}
	}
	panic("no thing: " + text)
}

func (w *toldWorld) putIn(text string, name string, value string) {
	t := w.thing(text)
	putField(&t.Names, &t.Values, name, valueOf(value))
}

func (w *toldWorld) takeFrom(text string, name string) {
	t := w.thing(text)
	takeField(&t.Names, &t.Values, name)
}

func (w *toldWorld) putAsked(name string, value string) {
	putField(&w.request.Names, &w.request.Values, name, valueOf(value))
}

// drop leaves a thing out of the list.
func (w *toldWorld) drop(text string) {
	w.things = slices.DeleteFunc(w.things, func(t impl.Thing) bool { return impl.AtomText(t.Ref) == text })
}

// toldFields are names with values, good or not.
type toldFields struct {
	names  []string
	values []impl.Value
}

func countedFields(many int) toldFields {
	f := toldFields{names: countedNames(many)}
	for i := range many {
		f.values = append(f.values, atomValue(numAtom(i)))
	}
	return f
}

// goodFields are fields of every sort.
func goodFields() []toldFields {
	all := []toldFields{{}, {[]string{}, []impl.Value{}}, countedFields(1), countedFields(impl.MaxFields - 1), countedFields(impl.MaxFields)}
	for _, names := range [][]string{{"A", "Z", "_", "a"}, {"_", "_1", "__"}, {"a", "a0", "aa", "b"}, {longName("n")}, {"Action", "context", "principal", "true"}} {
		f := toldFields{names: names}
		for range names {
			f.values = append(f.values, setValue())
		}
		all = append(all, f)
	}
	for _, v := range goodValues() {
		if v.value.Kind != impl.ValueRecord {
			all = append(all, toldFields{[]string{"a"}, []impl.Value{v.value}}, toldFields{[]string{"a", "b"}, []impl.Value{v.value, v.value}})
		}
	}
	return all
}

// badFields are no fields, by one fault each.
func badFields() []toldFields {
	one, two := atomValue(numAtom(1)), atomValue(textAtom("a"))
	bad := []toldFields{
		{[]string{"a", "a"}, []impl.Value{one, two}},
		{[]string{"a", "a"}, []impl.Value{one, one}},
		{[]string{"b", "a"}, []impl.Value{one, two}},
		{[]string{"a", "A"}, []impl.Value{one, two}},
		{[]string{"aa", "a"}, []impl.Value{one, two}},
		{[]string{"a", "c", "b"}, []impl.Value{one, two, one}},
		{[]string{"a"}, nil},
		{nil, []impl.Value{one}},
		{[]string{"a", "b"}, []impl.Value{one}},
		{[]string{"a"}, []impl.Value{one, two}},
		{countedNames(20), countedFields(19).values},
		{countedNames(19), countedFields(20).values},
		countedFields(impl.MaxFields + 1),
		countedFields(3000),
	}
	for _, word := range badWords() {
		bad = append(bad, toldFields{[]string{word}, []impl.Value{one}}, toldFields{[]string{"A", word}, []impl.Value{one, two}}, toldFields{[]string{word, "z"}, []impl.Value{one, two}})
	}
	values := badValues()
	for _, v := range goodValues() {
		if v.value.Kind == impl.ValueRecord {
			values = append(values, v.value)
		}
	}
	for _, v := range values {
		bad = append(bad, toldFields{[]string{"a"}, []impl.Value{v}}, toldFields{[]string{"a", "b"}, []impl.Value{one, v}}, toldFields{[]string{"a", "b"}, []impl.Value{v, one}})
	}
	return bad
}

// noRefs are atoms that are no good refs.
func noRefs() []impl.Atom {
	atoms := badAtoms()
	for _, g := range goodAtoms() {
		if g.atom.Kind != impl.RefAtom {
			atoms = append(atoms, g.atom)
		}
	}
	return atoms
}

func countedRefs(many int) []impl.Atom {
	var refs []impl.Atom
	for i := range many {
		refs = append(refs, refAtom("R", strconv.Itoa(10000+i)))
	}
	return refs
}

func countedThings(many int) []impl.Thing {
	var list []impl.Thing
	for _, ref := range countedRefs(many) {
		list = append(list, impl.Thing{Ref: ref})
	}
	return list
}

// refRows are rows of refs, with whether they rise.
func refRows() map[string]bool {
	return map[string]bool{
		`A::"a"`:                       true,
		`A::"a" A::"b"`:                true,
		`A::"b" A::"a"`:                false,
		`A::"a" A::"a"`:                false,
		`A::"b" B::"a"`:                true,
		`B::"a" A::"b"`:                false,
		`A::"a" B::"a"`:                true,
		`A::"a" AA::"a"`:               true,
		`AA::"a" A::"b"`:               false,
		`A::"a" A::"aa" A::"b" B::"0"`: true,
		`A::"a" A::"b" A::"a"`:         false,
		`A::"aa" A::"a"`:               false,
		`Z::"a" a::"a"`:                true,
		`a::"a" Z::"a"`:                false,
		`A::"Z" A::"a"`:                true,
		`A::"10" A::"9"`:               true,
	}
}

func refsOf(text string) []impl.Atom {
	var refs []impl.Atom
	for _, part := range strings.Fields(text) {
		refs = append(refs, valueOf(part).Atom)
	}
	return refs
}

// goodThingLists are good things of every sort.
func goodThingLists() [][]impl.Thing {
	all := [][]impl.Thing{nil, {}, countedThings(1), countedThings(impl.MaxThings - 1), countedThings(impl.MaxThings), labWorld().things}
	for _, f := range goodFields() {
		all = append(all, []impl.Thing{{Ref: refAtom("A", "a"), Names: f.names, Values: f.values}})
	}
	for _, many := range []int{1, impl.MaxItems - 1, impl.MaxItems} {
		all = append(all, []impl.Thing{{Ref: refAtom("A", "a"), Parents: countedRefs(many)}})
	}
	for row, rises := range refRows() {
		if rises {
			var list []impl.Thing
			for _, ref := range refsOf(row) {
				list = append(list, impl.Thing{Ref: ref, Parents: refsOf(row)})
			}
			all = append(all, list)
		}
	}
	for _, g := range goodAtoms() {
		if g.atom.Kind == impl.RefAtom {
			all = append(all, []impl.Thing{{Ref: g.atom}}, []impl.Thing{{Ref: g.atom, Parents: []impl.Atom{g.atom}}})
		}
	}
	return all
}

// badThingLists are not good, by one fault each.
func badThingLists() [][]impl.Thing {
	bad := [][]impl.Thing{countedThings(impl.MaxThings + 1), countedThings(3000), make([]impl.Thing, 1), make([]impl.Thing, 100000), {{Ref: refAtom("A", "a")}, {Ref: refAtom("A", "a"), Parents: countedRefs(1)}}}
	add := func(t impl.Thing) {
		bad = append(bad, []impl.Thing{t}, []impl.Thing{{Ref: refAtom("A", "0")}, t}, []impl.Thing{t, {Ref: refAtom("Z", "z")}})
	}
	own := refAtom("R", "r")
	for row, rises := range refRows() {
		if !rises {
			add(impl.Thing{Ref: own, Parents: refsOf(row)})
			var list []impl.Thing
			for _, ref := range refsOf(row) {
				list = append(list, impl.Thing{Ref: ref})
			}
			bad = append(bad, list)
		}
	}
	for _, a := range noRefs() {
		add(impl.Thing{Ref: a})
		add(impl.Thing{Ref: own, Parents: []impl.Atom{a}})
		add(impl.Thing{Ref: own, Parents: []impl.Atom{refAtom("A", "a"), a}})
		add(impl.Thing{Ref: own, Parents: []impl.Atom{a, refAtom("Z", "z")}})
	}
	for _, f := range badFields() {
		add(impl.Thing{Ref: own, Names: f.names, Values: f.values})
	}
	for _, many := range []int{impl.MaxItems + 1, 3000} {
		add(impl.Thing{Ref: own, Parents: countedRefs(many)})
	}
	return bad
}

func plainRequest() impl.Request {
	return impl.Request{Principal: refAtom("A", "a"), Action: refAtom("B", "b"), Resource: refAtom("C", "c")}
}

func goodRequests() []impl.Request {
	all := []impl.Request{plainRequest(), labWorld().request}
	for _, f := range goodFields() {
		r := plainRequest()
		r.Names, r.Values = f.names, f.values
		all = append(all, r)
	}
	for _, g := range goodAtoms() {
		if g.atom.Kind == impl.RefAtom {
			all = append(all, impl.Request{Principal: g.atom, Action: g.atom, Resource: g.atom})
		}
	}
	return all
}

// badRequests are not good, by one fault each.
func badRequests() []impl.Request {
	bad := []impl.Request{{}}
	add := func(change func(r *impl.Request)) {
		r := plainRequest()
		change(&r)
		bad = append(bad, r)
	}
	for _, a := range noRefs() {
		add(func(r *impl.Request) { r.Principal = a })
		add(func(r *impl.Request) { r.Action = a })
		add(func(r *impl.Request) { r.Resource = a })
	}
	for _, f := range badFields() {
		add(func(r *impl.Request) { r.Names, r.Values = f.names, f.values })
	}
	return bad
}

// kindTexts are all kinds in a schema with the Things A and B.
func kindTexts() []string {
	kinds := []string{"bool", "num", "text", "dec", "addr", "time", "ref A", "ref B"}
	for _, kind := range slices.Clone(kinds) {
		kinds = append(kinds, "set "+kind)
	}
	return kinds
}

// noKinds are no kinds in any schema.
func noKinds() []string {
	bad := []string{
		"", " ", "ref", "set", "ref ", "set ", "set ref", "set ref ", "ref  A", "set  num", "set ref  A", " num", "num ", "ref A ", " ref A", "set num ", " set num", "refA", "setnum", "setref A", "set refA",
		"set set num", "set set", "set set ref A", "ref set A", "ref ref A", "set set ", "ref A B", "ref 1", "set ref 1", "ref A-B", "ref A.b", "ref A\n", "num\n", "ref A\x00", "ref é",
		"Bool", "BOOL", "boolean", "nums", "nu", "number", "texts", "string", "decimal", "de", "addrs", "address", "times", "tim", "Ref A", "Set num", "lit A", "set lit A", "context", "set context", "record", "{}", "[num]", "num,text", "num text", "A", "Action", "true", "1",
	}
	for _, word := range badWords() {
		bad = append(bad, "ref "+word, "set ref "+word)
	}
	return append(bad, strings.Repeat("set ", 3000)+"num", strings.Repeat("ref ", 3000)+"A", strings.Repeat("n", 9000))
}

// plainSchema has the Things A and B, and the action a; all else may be set in it.
func plainSchema() impl.PolSchema {
	return impl.PolSchema{
		Things:  []impl.ThingType{thingType("A", "A B", "x num!, y ref B"), thingType("B", "", "")},
		Actions: []impl.ActionType{actionTypeOf("a", "A B", "B", "x set ref A"), actionTypeOf("b", "A", "A", "")},
	}
}

func countedThingTypes(many int) []impl.ThingType {
	var types []impl.ThingType
	for _, name := range countedNames(many) {
		types = append(types, impl.ThingType{Name: name})
	}
	return types
}

func countedAttrKinds(many int) []impl.AttrKind {
	var attrs []impl.AttrKind
	for i, name := range countedNames(many) {
		attrs = append(attrs, impl.AttrKind{Name: name, Kind: "num", Must: i%2 == 0})
	}
	return attrs
}

func countedActionTypes(many int) []impl.ActionType {
	var actions []impl.ActionType
	for _, id := range countedNames(many) {
		actions = append(actions, actionTypeOf(id, "A", "B", ""))
	}
	return actions
}

// fullSchema is at all limits.
func fullSchema() impl.PolSchema {
	s := impl.PolSchema{Things: countedThingTypes(impl.MaxFields)}
	names := thingNames(s)
	for i := range s.Things {
		s.Things[i].Ups, s.Things[i].Attrs = names, countedAttrKinds(impl.MaxFields)
	}
	for i := range impl.MaxFields {
		s.Actions = append(s.Actions, impl.ActionType{Id: "a" + strconv.Itoa(100+i), Principals: names, Resources: names, Context: countedAttrKinds(impl.MaxFields)})
	}
	return s
}

// changedPlain is the plain schema behind each change.
func changedPlain(changes ...func(s *impl.PolSchema)) []impl.PolSchema {
	var all []impl.PolSchema
	for _, change := range changes {
		s := plainSchema()
		change(&s)
		all = append(all, s)
	}
	return all
}

// goodPolSchemas are schemas of every sort.
func goodPolSchemas() []impl.PolSchema {
	all := []impl.PolSchema{{}, {Things: []impl.ThingType{}, Actions: []impl.ActionType{}}, {Things: countedThingTypes(1)}, {Things: countedThingTypes(impl.MaxFields)}, lab(), plainSchema(), fullSchema()}
	all = append(all, changedPlain(
		func(s *impl.PolSchema) { s.Actions = nil },
		func(s *impl.PolSchema) { s.Actions = countedActionTypes(impl.MaxFields) },
		func(s *impl.PolSchema) { s.Things[0].Attrs = countedAttrKinds(impl.MaxFields) },
		func(s *impl.PolSchema) { s.Actions[0].Context = countedAttrKinds(impl.MaxFields) },
		func(s *impl.PolSchema) { s.Things[0].Ups = nil },
		func(s *impl.PolSchema) { s.Things[0].Ups = []string{"A"} },
		func(s *impl.PolSchema) { s.Things[0].Ups = []string{"B"} },
		func(s *impl.PolSchema) { s.Things[1].Ups = []string{"A", "B"} },
		func(s *impl.PolSchema) { s.Things = append(s.Things, thingType("action", "", "")) },
		func(s *impl.PolSchema) { s.Things = append(s.Things, thingType("Actions", "", "")); sortThings(s) },
		func(s *impl.PolSchema) {
			s.Things = append(s.Things, thingType("bool", "", "a ref bool"), thingType("ref", "", "a ref ref, b set ref set"), thingType("set", "", ""))
		},
		func(s *impl.PolSchema) { s.Things = append(s.Things, thingType(longName("z"), "", "")) },
		func(s *impl.PolSchema) { s.Things[1].Attrs = attrsOf("A num, Z num, _ num, a num, a1 num, aa num") },
		func(s *impl.PolSchema) { s.Things[1].Attrs = []impl.AttrKind{{Name: longName("z"), Kind: "ref A"}} },
		func(s *impl.PolSchema) { s.Actions[1].Id = longId("z") },
		func(s *impl.PolSchema) { s.Actions[0].Id, s.Actions[1].Id = "-", "." },
		func(s *impl.PolSchema) { s.Actions[0].Id, s.Actions[1].Id = "9", "Action" },
	)...)
	for _, kind := range kindTexts() {
		for _, must := range []bool{false, true} {
			all = append(all, changedPlain(
				func(s *impl.PolSchema) { s.Things[1].Attrs = []impl.AttrKind{{Name: "k", Kind: kind, Must: must}} },
				func(s *impl.PolSchema) { s.Actions[1].Context = []impl.AttrKind{{Name: "k", Kind: kind, Must: must}} },
			)...)
		}
	}
	return all
}

func sortThings(s *impl.PolSchema) {
	slices.SortFunc(s.Things, func(a, b impl.ThingType) int { return strings.Compare(a.Name, b.Name) })
}

// badPolSchemas are not good, by one fault each.
func badPolSchemas() []impl.PolSchema {
	bad := changedPlain(
		func(s *impl.PolSchema) { s.Things = nil },
		func(s *impl.PolSchema) { s.Things = s.Things[:1] },
		func(s *impl.PolSchema) { s.Things = s.Things[1:] },
		func(s *impl.PolSchema) { slices.Reverse(s.Things) },
		func(s *impl.PolSchema) { s.Things[1].Name = "A" },
		func(s *impl.PolSchema) { s.Things = append(s.Things, thingType("B", "", "")) },
		func(s *impl.PolSchema) { s.Things = append(s.Things, thingType("Action", "", "")); sortThings(s) },
		func(s *impl.PolSchema) { s.Things = countedThingTypes(impl.MaxFields + 1); s.Actions = nil },
		func(s *impl.PolSchema) { s.Things = make([]impl.ThingType, 100000) },
		func(s *impl.PolSchema) { s.Things[0].Ups = []string{"B", "A"} },
		func(s *impl.PolSchema) { s.Things[0].Ups = []string{"A", "A"} },
		func(s *impl.PolSchema) { s.Things[0].Ups = []string{"A", "C"} },
		func(s *impl.PolSchema) { s.Things[0].Ups = []string{"Action"} },
		func(s *impl.PolSchema) { s.Things[1].Ups = []string{""} },
		func(s *impl.PolSchema) { s.Things[1].Ups = slices.Repeat([]string{"A"}, 3000) },
		func(s *impl.PolSchema) { s.Things[0].Attrs = countedAttrKinds(impl.MaxFields + 1) },
		func(s *impl.PolSchema) { s.Things[1].Attrs = attrsOf("a num, a num") },
		func(s *impl.PolSchema) { s.Things[1].Attrs = attrsOf("a num, a text!") },
		func(s *impl.PolSchema) { s.Things[1].Attrs = attrsOf("b num, a num") },
		func(s *impl.PolSchema) { s.Things[1].Attrs = attrsOf("a num, A num") },
		func(s *impl.PolSchema) { s.Things[1].Attrs = make([]impl.AttrKind, 1) },
		func(s *impl.PolSchema) { s.Actions[0].Context = countedAttrKinds(impl.MaxFields + 1) },
		func(s *impl.PolSchema) { s.Actions[1].Context = attrsOf("a num, a num") },
		func(s *impl.PolSchema) { s.Actions[1].Context = attrsOf("b num, a num") },
		func(s *impl.PolSchema) { s.Actions[1].Context = make([]impl.AttrKind, 3000) },
		func(s *impl.PolSchema) { s.Actions = countedActionTypes(impl.MaxFields + 1) },
		func(s *impl.PolSchema) { s.Actions = make([]impl.ActionType, 1) },
		func(s *impl.PolSchema) { s.Actions = make([]impl.ActionType, 100000) },
		func(s *impl.PolSchema) { slices.Reverse(s.Actions) },
		func(s *impl.PolSchema) { s.Actions[1].Id = "a" },
		func(s *impl.PolSchema) { s.Actions = append(s.Actions, actionTypeOf("B", "A", "A", "")) },
	)
	for _, word := range badWords() {
		bad = append(bad, changedPlain(
			func(s *impl.PolSchema) { s.Things = append(s.Things, impl.ThingType{Name: word}); sortThings(s) },
			func(s *impl.PolSchema) { s.Things[1].Ups = []string{word} },
			func(s *impl.PolSchema) { s.Things[1].Attrs = []impl.AttrKind{{Name: word, Kind: "num"}} },
			func(s *impl.PolSchema) { s.Actions[1].Context = []impl.AttrKind{{Name: word, Kind: "num"}} },
		)...)
	}
	for _, kind := range append(noKinds(), "ref C", "set ref C", "ref Action", "set ref Action", "ref a") {
		bad = append(bad, changedPlain(
			func(s *impl.PolSchema) { s.Things[0].Attrs[1].Kind = kind },
			func(s *impl.PolSchema) { s.Things[1].Attrs = []impl.AttrKind{{Name: "k", Kind: kind, Must: true}} },
			func(s *impl.PolSchema) { s.Actions[0].Context[0].Kind = kind },
		)...)
	}
	for _, id := range append(badIds(), "*") {
		bad = append(bad, changedPlain(
			func(s *impl.PolSchema) {
				s.Actions = []impl.ActionType{actionTypeOf("", "A", "A", "")}
				s.Actions[0].Id = id
			},
		)...)
	}
	for _, names := range [][]string{nil, {}, {"B", "A"}, {"A", "A"}, {"C"}, {"A", "C"}, {"Action"}, {""}, {"a"}, {"A "}, slices.Repeat([]string{"A"}, 3000)} {
		bad = append(bad, changedPlain(
			func(s *impl.PolSchema) { s.Actions[0].Principals = names },
			func(s *impl.PolSchema) { s.Actions[0].Resources = names },
			func(s *impl.PolSchema) { s.Actions[1].Principals = names },
			func(s *impl.PolSchema) { s.Actions[1].Resources = names },
		)...)
	}
	return bad
}

// exprText is the expression of a text that has one.
func exprText(text string) []impl.Expr {
	e, ok := impl.ReadExpr(text)
	if !ok {
		panic("no expression: " + text)
	}
	return e
}

// labKinds are, for each kind that an expression may have in lab where a User would edit a Doc, expressions of it; those of the empty text have none.
func labKinds() map[string][]string {
	return map[string][]string{
		"bool":           {"true", "principal.admin", "principal has boss", "resource.owner.admin"},
		"num":            {"1", "principal.age", "resource.size * 2"},
		"text":           {`"a"`, "principal.name", "resource.title"},
		"dec":            {"1.0000", "principal.pay", "-principal.pay"},
		"addr":           {"10.0.0.0/8", "principal.home"},
		"time":           {"@5", "context.now", "resource.due"},
		"ref User":       {"principal", "resource.owner"},
		"ref Doc":        {"resource", "if true then resource else resource"},
		"lit User":       {`User::"x"`, `if true then principal else User::"x"`},
		"lit Doc":        {`Doc::"x"`},
		"lit Action":     {"action", `Action::"edit"`},
		"lit Nobody":     {`Nobody::"x"`},
		"context":        {"context"},
		"set bool":       {"[true]"},
		"set num":        {"[1, 2]"},
		"set text":       {`["a"]`, "principal.tags"},
		"set dec":        {"[1.0000]"},
		"set addr":       {"[10.0.0.0/8]"},
		"set time":       {"[@5]"},
		"set ref User":   {"resource.readers", `[User::"x", User::"y"]`},
		"set ref Doc":    {`[Doc::"x"]`},
		"set ref Nobody": {`[Nobody::"x"]`},
		"set ref Action": {`[Action::"edit"]`},
		"":               {"principal.boss", "[]", "[1, true]", "context.by", "1 + true"},
	}
}

// kindDrawer draws expressions that mostly have a kind.
type kindDrawer struct {
	from *rand.Rand
	kindCase
}

// toldPath is a word with names behind it.
type toldPath struct {
	expr []impl.Expr
	text string
	kind string
}

// paths are all that have a kind where that is there, with up to two names behind the word; where loose is told all else that the schema has as well.
func (d kindDrawer) paths(there map[string]bool, loose bool) []toldPath {
	all := []toldPath{{principalExpr(), "principal", "ref " + d.principal}, {varExpr("resource"), "resource", "ref " + d.resource}, {varExpr("context"), "context", "context"}, {varExpr("action"), "action", "lit Action"}}
	for i := 0; i < len(all); i++ {
		for _, a := range d.attrsByKind(all[i].kind) {
			text := all[i].text + "." + a.Name
			if len(all[i].expr) < 3 && (a.Must || there[text] || loose) {
				all = append(all, toldPath{getExpr(all[i].expr, a.Name), text, a.Kind})
			}
		}
	}
	return all
}

// leansOn says whether the path, or one that it goes through, is there by a guard.
func (p toldPath) leansOn(there map[string]bool) bool {
	for text := range there {
		if p.text == text || strings.HasPrefix(p.text, text+".") {
			return true
		}
	}
	return false
}

// path draws one of that kind, mostly one that leans on what is there; false where there is none.
func (d kindDrawer) path(kind string, there map[string]bool) ([]impl.Expr, bool) {
	var own, leaning []toldPath
	for _, p := range d.paths(there, d.from.Intn(20) == 0) {
		if p.kind != kind {
			continue
		}
		if own = append(own, p); p.leansOn(there) {
			leaning = append(leaning, p)
		}
	}
	switch {
	case len(own) == 0:
		return nil, false
	case len(leaning) > 0 && d.from.Intn(4) > 0:
		return oneOf(d.from, leaning).expr, true
	}
	return oneOf(d.from, own).expr, true
}

// use draws a test of what is there by a guard, where something is.
func (d kindDrawer) use(within int, there map[string]bool) []impl.Expr {
	var leaning []toldPath
	for _, p := range d.paths(there, false) {
		if p.leansOn(there) {
			leaning = append(leaning, p)
		}
	}
	if len(leaning) == 0 || d.from.Intn(3) == 0 {
		return d.draw("bool", within, there)
	}
	own := oneOf(d.from, leaning)
	sides := [][]impl.Expr{own.expr, d.draw(own.kind, within-1, there)}
	if d.from.Intn(2) == 0 {
		slices.Reverse(sides)
	}
	return exprOf(impl.ExprSame, "", sides...)
}

// guard draws an ExprHas, often with an attribute that need not be there.
func (d kindDrawer) guard(there map[string]bool) []impl.Expr {
	of := oneOf(d.from, d.paths(there, d.from.Intn(30) == 0))
	attrs := d.attrsByKind(of.kind)
	if len(attrs) == 0 {
		return exprOf(impl.ExprHas, "nothing", principalExpr())
	}
	return exprOf(impl.ExprHas, oneOf(d.from, attrs).Name, of.expr)
}

func (d kindDrawer) anyKind() string {
	kinds := []string{"bool", "bool", "bool", "bool", "bool", "bool", "bool", "bool", "bool", "bool", "num", "text", "dec", "addr", "time", "set num", "set text", "lit Action", "context"}
	for _, typ := range thingNames(d.schema) {
		kinds = append(kinds, "ref "+typ, "lit "+typ, "set ref "+typ)
	}
	return oneOf(d.from, kinds)
}

func (d kindDrawer) ref() string {
	return oneOf(d.from, []string{"ref ", "ref ", "lit "}) + oneOf(d.from, thingNames(d.schema))
}

// with is what is there behind a test that is true.
func (d kindDrawer) with(there map[string]bool, test []impl.Expr) map[string]bool {
	return eitherOf(there, d.look(test).adds)
}

func (d kindDrawer) and(first []impl.Expr, within int, there map[string]bool) []impl.Expr {
	return exprOf(impl.ExprAnd, "", first, d.use(within-1, d.with(there, first)))
}

func (d kindDrawer) test(within int, there map[string]bool) []impl.Expr {
	kid := func(kind string) []impl.Expr { return d.draw(kind, within-1, there) }
	typ := oneOf(d.from, thingNames(d.schema))
	order := oneOf(d.from, []string{"num", "text", "dec", "time"})
	switch d.from.Intn(15) {
	case 0:
		return notExpr(kid("bool"))
	case 1, 2, 3:
		return d.and(d.guard(there), within, there)
	case 4:
		return d.and(kid("bool"), within, there)
	case 5:
		return exprOf(impl.ExprOr, "", kid("bool"), kid("bool"))
	case 6:
		guard := d.guard(there)
		return d.and(exprOf(impl.ExprOr, "", oneOf(d.from, [][]impl.Expr{guard, guard, d.guard(there)}), exprOf(impl.ExprAnd, "", kid("bool"), guard)), within, there)
	case 7:
		kind := d.anyKind()
		return exprOf(impl.ExprSame, "", kid(kind), kid(kind))
	case 8:
		return exprOf(oneOf(d.from, []int{impl.ExprLess, impl.ExprMost}), "", kid(order), kid(order))
	case 9:
		return exprOf(oneOf(d.from, []int{impl.ExprIn, impl.ExprSame}), "", kid(d.ref()), kid(d.ref()))
	case 10:
		return exprOf(impl.ExprIn, "", kid(d.ref()), kid("set ref "+typ))
	case 11:
		item := oneOf(d.from, []string{"text", "num", "ref " + typ})
		return exprOf(impl.ExprContains, "", kid("set "+item), kid(item))
	case 12:
		return exprOf(impl.ExprWithin, "", kid("addr"), kid("addr"))
	case 13:
		return exprOf(impl.ExprLike, "a*", kid("text"))
	}
	return exprOf(impl.ExprIs, typ, kid(d.ref()))
}

// lit is a literal, or a set of such ones: of a ref it is one to what may not be there.
func (d kindDrawer) lit(kind string) []impl.Expr {
	atoms := map[string]impl.Atom{"bool": boolAtom(1), "num": numAtom(1), "text": textAtom("a"), "dec": decAtom(1), "addr": addrAtom(0, 0), "time": timeAtom(1)}
	item := strings.TrimPrefix(kind, "set ")
	a, ok := atoms[item]
	if _, typ, cut := strings.Cut(item, " "); cut {
		a, ok = refAtom(typ, "x"), true
	}
	switch {
	case !ok:
		return varExpr("context")
	case item != kind:
		return setExpr(a, a)
	}
	return litExpr(a)
}

// draw draws what mostly has that kind, with at most so many nodes within each other, or a few more.
func (d kindDrawer) draw(kind string, within int, there map[string]bool) []impl.Expr {
	if d.from.Intn(50) == 0 {
		kind = d.anyKind()
	}
	pick := d.from.Intn(10)
	switch {
	case within <= 1 || pick == 0 || kind == "context":
	case pick == 1:
		asked := d.guard(there)
		if d.from.Intn(2) == 0 {
			asked = d.draw("bool", within-1, there)
		}
		return ifExpr(asked, d.draw(kind, within-1, d.with(there, asked)), d.draw(kind, within-1, there))
	case pick <= 8 && kind == "bool":
		return d.test(within, there)
	case pick <= 4 && kind == "num":
		return exprOf(oneOf(d.from, []int{impl.ExprPlus, impl.ExprMinus, impl.ExprTimes}), "", d.draw(kind, within-1, there), d.draw(kind, within-1, there))
	case pick <= 4 && kind == "dec":
		return exprOf(oneOf(d.from, []int{impl.ExprPlus, impl.ExprMinus}), "", d.draw(kind, within-1, there), d.draw(kind, within-1, there))
	case pick == 5 && (kind == "num" || kind == "dec"):
		return negExpr(d.draw(kind, within-1, there))
	}
	if e, ok := d.path(kind, there); ok && d.from.Intn(8) > 0 {
		return e
	}
	return d.lit(kind)
}

// drawnPolSchema draws a good schema of few names, whose first two Things and first Action are always there.
func drawnPolSchema(from *rand.Rand) impl.PolSchema {
	types := []string{"A", "B", "num", "ref"}[:2+from.Intn(3)]
	some := func(list []string, least int) []string {
		for {
			var out []string
			for _, x := range list {
				if from.Intn(2) == 0 {
					out = append(out, x)
				}
			}
			if len(out) >= least {
				return out
			}
		}
	}
	attrs := func() []impl.AttrKind {
		var out []impl.AttrKind
		for _, name := range some([]string{"a", "b", "c", "d", "e", "f"}, 1) {
			kind := oneOf(from, []string{"bool", "num", "text", "dec", "addr", "time", "ref A", "ref A", "ref B", "ref " + oneOf(from, types), "set text", "set num", "set ref " + oneOf(from, types)})
			out = append(out, impl.AttrKind{Name: name, Kind: kind, Must: from.Intn(2) == 0})
		}
		return out
	}
	var s impl.PolSchema
	for _, name := range types {
		s.Things = append(s.Things, impl.ThingType{Name: name, Ups: some(types, 0), Attrs: attrs()})
	}
	for i := range 1 + from.Intn(3) {
		s.Actions = append(s.Actions, impl.ActionType{Id: fmt.Sprint("a", i), Principals: some(types, 1), Resources: some(types, 1), Context: attrs()})
	}
	return s
}

// drawnHead draws a head of which the Types and Ids are often those of the schema.
func drawnHead(from *rand.Rand, types []string, texts []string, slots bool) impl.Head {
	kinds := []int{impl.HeadAny, impl.HeadAny, impl.HeadSame, impl.HeadIn, impl.HeadIs}
	if slots {
		kinds = append(kinds, impl.HeadSlot, impl.HeadInSlot)
	}
	h := impl.Head{Kind: oneOf(from, kinds)}
	switch h.Kind {
	case impl.HeadSame, impl.HeadIn:
		h.Atom = refAtom(oneOf(from, types), oneOf(from, texts))
	case impl.HeadIs:
		h.Type = oneOf(from, types)
	}
	return h
}
