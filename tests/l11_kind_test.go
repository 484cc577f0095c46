package tests

import (
	"fmt"
	"slices"
	"strings"
	"testing"

	"loop.example/g00036/impl"
)

func askThings(t *testing.T, list []impl.Thing) bool {
	t.Helper()
	want := goodThingsByWords(list)
	if got := impl.GoodThings(list); got != want {
		t.Errorf("GoodThings(%.300s): got %v", shown(list), got)
	}
	return want
}

func askRequest(t *testing.T, r impl.Request) bool {
	t.Helper()
	want := goodRequestByWords(r)
	if got := impl.GoodRequest(r); got != want {
		t.Errorf("GoodRequest(%.300s): got %v", shown(r), got)
	}
	return want
}

func askPolSchema(t *testing.T, s impl.PolSchema) bool {
	t.Helper()
	want := goodPolSchemaByWords(s)
	if got := impl.GoodPolSchema(s); got != want {
		t.Errorf("GoodPolSchema(%.300s): got %v", shown(s), got)
	}
	return want
}

func askFits(t *testing.T, v impl.Value, kind string) bool {
	t.Helper()
	want := fitsKindByWords(v, kind)
	if got := impl.FitsKind(v, kind); got != want {
		t.Errorf("FitsKind(%.300s, %.100q): got %v", shown(v), kind, got)
	}
	return want
}

func (w toldWorld) ask(t *testing.T) bool {
	t.Helper()
	want := goodWorldByWords(w.schema, w.things, w.request)
	if got := impl.GoodWorld(w.schema, w.things, w.request); got != want {
		t.Errorf("GoodWorld(%.300s): got %v, faults %v", shown(w), got, worldFaults(w.schema, w.things, w.request))
	}
	return want
}

func askKindOf(t *testing.T, s impl.PolSchema, e []impl.Expr, principal string, action string, resource string) string {
	t.Helper()
	want := kindOfByWords(s, e, principal, action, resource)
	if got := impl.KindOf(s, e, principal, action, resource); got != want {
		t.Errorf("KindOf(%.200s, %s, %s, %s): got %q, want %q, by %.300s", impl.ExprText(e), principal, action, resource, got, want, shown(s))
	}
	return want
}

func askKindFaults(t *testing.T, s impl.PolSchema, p impl.Policy) []string {
	t.Helper()
	want := kindFaultsByWords(s, p)
	if got := impl.KindFaults(s, p); !slices.Equal(got, want) || len(got) == 0 && cap(got) != 0 {
		t.Errorf("KindFaults(%.300s): got %v, want %v, by %.300s", impl.PolicyText(p), got, want, shown(s))
	}
	return want
}

func TestGoodThings(t *testing.T) {
	for _, list := range goodThingLists() {
		if !askThings(t, list) || !impl.GoodThings(list) {
			t.Errorf("%.300s are not good", shown(list))
		}
	}
	for _, list := range badThingLists() {
		if askThings(t, list) || impl.GoodThings(list) {
			t.Errorf("%.300s are good", shown(list))
		}
	}
	for many, want := range map[int]bool{0: true, 1: true, 99: true, 100: true, 101: false, 102: false} {
		if got := impl.GoodThings(countedThings(many)); got != want {
			t.Errorf("%d things: got %v", many, got)
		}
	}
	for many, want := range map[int]bool{0: true, 1: true, 49: true, 50: true, 51: false, 52: false} {
		if got := impl.GoodThings([]impl.Thing{{Ref: refAtom("A", "a"), Parents: countedRefs(many)}}); got != want {
			t.Errorf("%d Parents: got %v", many, got)
		}
	}
	for many, want := range map[int]bool{0: true, 1: true, 19: true, 20: true, 21: false, 22: false} {
		f := countedFields(many)
		if got := impl.GoodThings([]impl.Thing{{Ref: refAtom("A", "a"), Names: f.names, Values: f.values}}); got != want {
			t.Errorf("%d fields: got %v", many, got)
		}
		r := plainRequest()
		r.Names, r.Values = f.names, f.values
		if got := impl.GoodRequest(r); got != want {
			t.Errorf("%d fields of a request: got %v", many, got)
		}
	}
}

func TestGoodRequest(t *testing.T) {
	for _, r := range goodRequests() {
		if !askRequest(t, r) || !impl.GoodRequest(r) {
			t.Errorf("%.300s is not good", shown(r))
		}
	}
	for _, r := range badRequests() {
		if askRequest(t, r) || impl.GoodRequest(r) {
			t.Errorf("%.300s is good", shown(r))
		}
	}
}

func TestGoodPolSchema(t *testing.T) {
	for _, s := range goodPolSchemas() {
		if !askPolSchema(t, s) || !impl.GoodPolSchema(s) {
			t.Errorf("%.300s is not good", shown(s))
		}
	}
	for _, s := range badPolSchemas() {
		if askPolSchema(t, s) || impl.GoodPolSchema(s) {
			t.Errorf("%.300s is good", shown(s))
		}
	}
}

// Each number of a schema's parts is counted beyond its limit while the rest is at it.
func TestSchemasOfKindsAtTheirLimits(t *testing.T) {
	for many, want := range map[int]bool{19: true, 20: true, 21: false} {
		for _, change := range []func(s *impl.PolSchema){
			func(s *impl.PolSchema) {
				s.Things = append(s.Things, countedThingTypes(many + 1)[20:]...)
				s.Things = s.Things[:many]
				for i := range s.Things {
					s.Things[i].Ups = nil
				}
				for i := range s.Actions {
					s.Actions[i].Principals, s.Actions[i].Resources = countedNames(many), countedNames(1)
				}
			},
			func(s *impl.PolSchema) { s.Things[7].Attrs = countedAttrKinds(many) },
			func(s *impl.PolSchema) { s.Things[19].Attrs = countedAttrKinds(many) },
			func(s *impl.PolSchema) { s.Actions[0].Context = countedAttrKinds(many) },
			func(s *impl.PolSchema) {
				s.Actions = append(s.Actions, impl.ActionType{Id: "z", Principals: countedNames(1), Resources: countedNames(1)}, impl.ActionType{Id: "z1", Principals: countedNames(1), Resources: countedNames(1)})[:many]
			},
		} {
			s := fullSchema()
			if many == 19 && len(s.Things) != 20 {
				t.Fatal("the schema is not full")
			}
			if change(&s); impl.GoodPolSchema(s) != want || askPolSchema(t, s) != want {
				t.Errorf("%d: got %v", many, !want)
			}
		}
	}
}

// valuesOfKinds are a few values of each kind, by the kind; the empty set is of no one kind and stands apart.
func valuesOfKinds() map[string][]impl.Value {
	values := map[string][]impl.Value{}
	for _, g := range goodAtoms() {
		kind := wordsOfKinds[g.atom.Kind]
		if g.atom.Kind == impl.RefAtom {
			kind = "ref " + g.atom.Type
		}
		values[kind] = append(values[kind], atomValue(g.atom))
		values["set "+kind] = append(values["set "+kind], setValue(g.atom))
	}
	values["ref A"] = append(values["ref A"], atomValue(refAtom("A", "a")), atomValue(refAtom("A", "A")))
	values["ref B"] = []impl.Value{atomValue(refAtom("B", "a"))}
	values["ref Action"] = []impl.Value{atomValue(refAtom("Action", "a"))}
	values["set ref A"] = append(values["set ref A"], setValue(refsOf(`A::"a" A::"b"`)...))
	values["set ref R"] = []impl.Value{setValue(countedRefs(1)...), setValue(countedRefs(impl.MaxItems)...)}
	values["set ref B"] = []impl.Value{setValue(refAtom("B", "a"))}
	values["set ref Action"] = []impl.Value{setValue(refAtom("Action", "a"))}
	values["set num"] = append(values["set num"], setValue(countedAtoms(2)...), setValue(countedAtoms(impl.MaxItems)...))
	return values
}

func TestFitsKind(t *testing.T) {
	values := valuesOfKinds()
	for own, list := range values {
		for _, v := range list {
			for kind := range values {
				if got := impl.FitsKind(v, kind); got != (own == kind) {
					t.Errorf("FitsKind(%s, %q): got %v", impl.ValueText(v), kind, got)
				}
				askFits(t, v, kind)
			}
			for _, kind := range noKinds() {
				if impl.FitsKind(v, kind) || askFits(t, v, kind) {
					t.Errorf("FitsKind(%s, %.100q): got true", impl.ValueText(v), kind)
				}
			}
		}
	}
	for _, kind := range append(noKinds(), kindTexts()...) {
		empty := impl.FitsKind(setValue(), kind)
		if want := slices.Contains(kindTexts(), kind) && strings.HasPrefix(kind, "set "); empty != want || askFits(t, setValue(), kind) != want {
			t.Errorf("FitsKind([], %.100q): got %v", kind, empty)
		}
	}
	for _, kind := range []string{"ref nobody", "set ref nobody", "ref set", "ref ref", "set ref ref", "set ref " + longName("n"), "ref Action", "set ref Action"} {
		typ := kind[strings.LastIndexByte(kind, ' ')+1:]
		item, other := refAtom(typ, "x"), refAtom(typ[1:], "x")
		isSet := strings.HasPrefix(kind, "set ")
		if impl.FitsKind(setValue(item), kind) != isSet || impl.FitsKind(atomValue(item), kind) == isSet || impl.FitsKind(setValue(other), kind) || impl.FitsKind(atomValue(other), kind) || impl.FitsKind(setValue(), kind) != isSet {
			t.Errorf("FitsKind of a ref, %q: not as told", kind)
		}
	}
}

func TestFitsKindOfMixedSetsAndRecords(t *testing.T) {
	mixed := []impl.Value{
		setValue(boolAtom(1), numAtom(1)), setValue(numAtom(1), textAtom("a")), setValue(numAtom(1), decAtom(1)), setValue(numAtom(1), timeAtom(1)), setValue(decAtom(1), addrAtom(0, 0)),
		setValue(refsOf(`A::"a" B::"a"`)...), setValue(refsOf(`A::"a" A::"b" B::"a"`)...), setValue(textAtom("a"), refAtom("A", "a")), setValue(append(countedAtoms(49), textAtom("a"))...),
		recordValue(nil), recordValue([]string{"a"}, numAtom(1)), recordValue([]string{"a"}, refAtom("A", "a")), {},
	}
	for _, v := range append(mixed, badValues()...) {
		for _, kind := range append(kindTexts(), noKinds()...) {
			if impl.FitsKind(v, kind) || askFits(t, v, kind) {
				t.Errorf("FitsKind(%.300s, %.100q): got true", shown(v), kind)
			}
		}
	}
}

// worldChange is what is done to a good world.
type worldChange struct {
	what   string
	change func(w *toldWorld)
}

// harmless are changes behind which the world is still good.
func harmless() []worldChange {
	return []worldChange{
		{"nothing", func(w *toldWorld) {}},
		{"what need not be there is gone", func(w *toldWorld) { w.takeFrom(`Box::"b"`, "boss") }},
		{"what need not be there comes", func(w *toldWorld) { w.putIn(`Box::"i"`, "boss", `User::"bob"`) }},
		{"a set of no refs", func(w *toldWorld) { w.putIn(`User::"ann"`, "docs", "[]") }},
		{"a set of two refs", func(w *toldWorld) { w.putIn(`User::"ann"`, "docs", `[Doc::"d",Doc::"e"]`) }},
		{"its own boss", func(w *toldWorld) { w.putIn(`User::"ann"`, "boss", `User::"ann"`) }},
		{"its own Parent", func(w *toldWorld) { w.thing(`Box::"b"`).Parents = refsOf(`Box::"b"`) }},
		{"Parents in a ring", func(w *toldWorld) { w.thing(`Box::"b"`).Parents = refsOf(`Box::"i"`) }},
		{"no Parents", func(w *toldWorld) { w.thing(`Doc::"d"`).Parents = nil }},
		{"more things", func(w *toldWorld) { w.things = append(w.things, thingOf(refAtom("User", "cid"), bobFields)) }},
		{"another thing with the principal's fields", func(w *toldWorld) { w.request.Principal = refAtom("User", "ann") }},
		{"an action of no Context", func(w *toldWorld) { w.request = requestOf(refAtom("User", "ann"), "move.1", refAtom("Doc", "e"), "") }},
		{"another Type of principals", func(w *toldWorld) {
			w.request = requestOf(refAtom("Team", "t"), "view", refAtom("Box", "i"), "now=@-5")
		}},
		{"the same ref as principal and resource", func(w *toldWorld) {
			w.request = requestOf(refAtom("User", "ann"), "view", refAtom("User", "ann"), "now=@0")
		}},
		{"a context with all", func(w *toldWorld) { w.putAsked("ok", "true"); w.putAsked("from", "0.0.0.0/0") }},
		{"a context with what must be there alone", func(w *toldWorld) {
			w.request = requestOf(refAtom("User", "ann"), "edit", refAtom("Doc", "e"), "now=@0")
		}},
		{"another text", func(w *toldWorld) { w.putIn(`User::"ann"`, "name", `"User"`) }},
		{"a Type that no thing has", func(w *toldWorld) {
			w.schema.Things = append(w.schema.Things, thingType("Zoo", "Zoo", "keeper ref Zoo!"))
		}},
	}
}

// harmful are changes behind which the world is not good, by one fault each.
func harmful() []worldChange {
	changes := []worldChange{
		{"a Type that is no Thing", func(w *toldWorld) { w.things = append(w.things, thingOf(refAtom("Zoo", "z"), "")) }},
		{"the Type Action", func(w *toldWorld) {
			w.things = slices.Insert(w.things, 0, thingOf(refAtom("Action", "edit"), ""))
		}},
		{"a Parent that is not in list", func(w *toldWorld) { w.thing(`Box::"i"`).Parents = refsOf(`Box::"x"`) }},
		{"a second Parent that is not in list", func(w *toldWorld) { w.thing(`Box::"i"`).Parents = refsOf(`Box::"b" Box::"x"`) }},
		{"a Parent of a Type that is not in Ups", func(w *toldWorld) { w.thing(`Box::"b"`).Parents = refsOf(`Team::"t"`) }},
		{"a Parent of its own Type that is not in Ups", func(w *toldWorld) { w.thing(`User::"bob"`).Parents = refsOf(`User::"ann"`) }},
		{"a second Parent of another Type", func(w *toldWorld) { w.thing(`User::"ann"`).Parents = refsOf(`Team::"t" User::"bob"`) }},
		{"Parents where there are no Ups", func(w *toldWorld) { w.thing(`Team::"t"`).Parents = refsOf(`Box::"b"`) }},
		{"a Parent that is gone", func(w *toldWorld) { w.drop(`Team::"t"`) }},
		{"a Must that is gone", func(w *toldWorld) { w.takeFrom(`User::"ann"`, "age") }},
		{"the first Must that is gone", func(w *toldWorld) { w.takeFrom(`User::"bob"`, "admin") }},
		{"the last Must that is gone", func(w *toldWorld) { w.takeFrom(`User::"ann"`, "tags") }},
		{"no fields at all", func(w *toldWorld) { u := w.thing(`User::"ann"`); u.Names, u.Values = nil, nil }},
		{"a field that is no Attr", func(w *toldWorld) { w.putIn(`User::"ann"`, "zip", "1") }},
		{"a field of a Type without Attrs", func(w *toldWorld) { w.putIn(`Team::"t"`, "boss", `User::"ann"`) }},
		{"a field that is another Type's Attr", func(w *toldWorld) { w.putIn(`Box::"b"`, "title", `"a"`) }},
		{"a Value of another kind", func(w *toldWorld) { w.putIn(`User::"ann"`, "age", `"40"`) }},
		{"a dec for a num", func(w *toldWorld) { w.putIn(`User::"ann"`, "age", "40.0000") }},
		{"a time for a num", func(w *toldWorld) { w.putIn(`Doc::"d"`, "size", "@5") }},
		{"a set for a text", func(w *toldWorld) { w.putIn(`User::"ann"`, "name", `["a"]`) }},
		{"a text for a set", func(w *toldWorld) { w.putIn(`User::"ann"`, "tags", `"a"`) }},
		{"a set of numbers for one of texts", func(w *toldWorld) { w.putIn(`User::"ann"`, "tags", "[1]") }},
		{"a mixed set", func(w *toldWorld) { w.putIn(`User::"ann"`, "tags", `[1,"a"]`) }},
		{"what need not be there is of another kind", func(w *toldWorld) { w.putIn(`User::"ann"`, "since", "5") }},
		{"a ref of another Type", func(w *toldWorld) { w.putIn(`Doc::"d"`, "owner", `Doc::"d"`) }},
		{"a ref that is not in list", func(w *toldWorld) { w.putIn(`Doc::"d"`, "owner", `User::"cid"`) }},
		{"what need not be there is not in list", func(w *toldWorld) { w.putIn(`Box::"b"`, "boss", `User::"cid"`) }},
		{"an Item that is not in list", func(w *toldWorld) { w.putIn(`Doc::"d"`, "readers", `[User::"cid"]`) }},
		{"a last Item that is not in list", func(w *toldWorld) { w.putIn(`Doc::"d"`, "readers", `[User::"ann",User::"cid"]`) }},
		{"a first Item that is not in list", func(w *toldWorld) { w.putIn(`Doc::"d"`, "readers", `[User::"aaa",User::"ann"]`) }},
		{"an Item of another Type", func(w *toldWorld) { w.putIn(`Doc::"d"`, "readers", `[Doc::"d"]`) }},
		{"an Action of another Type", func(w *toldWorld) { w.request.Action.Type = "Actions" }},
		{"an Action that is a thing", func(w *toldWorld) {
			w.things = append(w.things, thingOf(refAtom("User", "edit"), bobFields))
			w.request.Action = refAtom("User", "edit")
		}},
		{"an Action of an Id that is none", func(w *toldWorld) { w.request.Action.Text = "edits" }},
		{"an Action of no id", func(w *toldWorld) { w.request.Action.Text = "*" }},
		{"a principal that is not in list", func(w *toldWorld) { w.request.Principal.Text = "cid" }},
		{"a principal of another Type", func(w *toldWorld) { w.request.Principal = refAtom("Team", "t") }},
		{"a resource that is not in list", func(w *toldWorld) { w.request.Resource.Text = "x" }},
		{"a resource of another Type", func(w *toldWorld) { w.request.Resource = refAtom("User", "ann") }},
		{"principal and resource changed about", func(w *toldWorld) {
			w.request.Principal, w.request.Resource = w.request.Resource, w.request.Principal
		}},
		{"a Must of the context that is gone", func(w *toldWorld) { takeField(&w.request.Names, &w.request.Values, "now") }},
		{"a context that is none of the Context", func(w *toldWorld) { w.putAsked("then", "@5") }},
		{"a context of another action", func(w *toldWorld) {
			w.request = requestOf(refAtom("User", "ann"), "view", refAtom("Doc", "d"), `by=User::"ann" now=@5`)
		}},
		{"a context where there is none", func(w *toldWorld) {
			w.request = requestOf(refAtom("User", "ann"), "move.1", refAtom("Doc", "d"), "now=@5")
		}},
		{"a context of another kind", func(w *toldWorld) { w.putAsked("now", "5") }},
		{"a context that need not be there, of another kind", func(w *toldWorld) { w.putAsked("ok", `"true"`) }},
		{"a ref of the context that is not in list", func(w *toldWorld) { w.putAsked("by", `User::"cid"`) }},
		{"a ref of the context of another Type", func(w *toldWorld) { w.putAsked("by", `Doc::"d"`) }},
		{"an Item of the context that is not in list", func(w *toldWorld) { w.putAsked("near", `[User::"ann",User::"cid"]`) }},
		{"a thing that others name is gone", func(w *toldWorld) { w.drop(`User::"ann"`) }},
		{"the resource is gone", func(w *toldWorld) { w.drop(`Doc::"d"`) }},
		{"no things", func(w *toldWorld) { w.things = nil }},
		{"no request", func(w *toldWorld) { w.request = impl.Request{} }},
		{"no schema", func(w *toldWorld) { w.schema = impl.PolSchema{} }},
		{"no Actions", func(w *toldWorld) { w.schema.Actions = nil }},
		{"a schema that is not good", func(w *toldWorld) { w.schema.Things[2].Ups = []string{"Zoo"} }},
		{"a schema with an Action that is not good", func(w *toldWorld) { w.schema.Actions[2].Resources = nil }},
		{"things that fall", func(w *toldWorld) { slices.Reverse(w.things) }},
		{"a thing twice", func(w *toldWorld) { w.things = slices.Insert(w.things, 4, w.things[4]) }},
		{"Parents that fall", func(w *toldWorld) { slices.Reverse(w.thing(`Doc::"d"`).Parents) }},
		{"a Parent twice", func(w *toldWorld) { w.thing(`Box::"i"`).Parents = refsOf(`Box::"b" Box::"b"`) }},
		{"more Names than Values", func(w *toldWorld) { b := w.thing(`Box::"i"`); b.Names = []string{"boss"} }},
		{"more Values than Names", func(w *toldWorld) { b := w.thing(`Box::"i"`); b.Values = []impl.Value{setValue()} }},
		{"a request with more Names than Values", func(w *toldWorld) { w.request.Names = append(w.request.Names, "ok") }},
		{"a request with names that fall", func(w *toldWorld) {
			slices.Reverse(w.request.Names)
			slices.Reverse(w.request.Values)
		}},
		{"more than MaxThings", func(w *toldWorld) {
			for i := range 100 {
				w.things = append(w.things, thingOf(refAtom("User", fmt.Sprint("u", 100+i)), bobFields))
			}
		}},
	}
	for i, a := range lab().Things[3].Attrs {
		changes = append(changes, worldChange{"a name that is not " + a.Name, func(w *toldWorld) { w.schema.Things[3].Attrs[i].Name += "_" }})
	}
	return changes
}

func TestGoodWorld(t *testing.T) {
	for _, c := range harmless() {
		w := labWorld()
		if c.change(&w); !w.ask(t) || !impl.GoodWorld(w.schema, w.things, w.request) {
			t.Errorf("%s: not good, %v", c.what, worldFaults(w.schema, w.things, w.request))
		}
	}
	for _, c := range harmful() {
		w := labWorld()
		if c.change(&w); w.ask(t) || impl.GoodWorld(w.schema, w.things, w.request) {
			t.Errorf("%s: good", c.what)
		}
	}
}

// Each two changes one behind the other, whatever comes of it.
func TestWorldsBehindTwoChanges(t *testing.T) {
	changes := append(harmless(), harmful()...)
	good := 0
	for _, first := range changes {
		for _, second := range changes {
			if strings.Contains(first.what, "gone") || strings.Contains(second.what, "gone") || first.what == "no things" {
				continue
			}
			w := labWorld()
			first.change(&w)
			func() {
				// What the second change is made for may not be there any more.
				defer func() { recover() }()
				second.change(&w)
			}()
			if w.ask(t) {
				good++
			}
		}
	}
	if good < 100 {
		t.Errorf("only %d good worlds", good)
	}
}

func TestWorldsAtTheirLimits(t *testing.T) {
	s := fullSchema()
	fields := countedFields(impl.MaxFields)
	for many, want := range map[int]bool{99: true, 100: true, 101: false} {
		w := toldWorld{schema: s}
		for i := range many {
			ref := refAtom("n100", fmt.Sprint(10000+i))
			w.things = append(w.things, impl.Thing{Ref: ref, Names: fields.names, Values: fields.values})
		}
		for i := range min(many, impl.MaxThings) {
			for _, other := range w.things[:min(impl.MaxItems, many)] {
				w.things[i].Parents = append(w.things[i].Parents, other.Ref)
			}
		}
		w.request = impl.Request{Principal: w.things[0].Ref, Action: refAtom("Action", "a119"), Resource: w.things[many-1].Ref, Names: fields.names, Values: fields.values}
		if got := impl.GoodWorld(w.schema, w.things, w.request); got != want || w.ask(t) != want {
			t.Errorf("%d things: got %v", many, got)
		}
	}
}

// drawnWorld draws a world of the schema that is mostly good.
func drawnWorld(d kindDrawer) toldWorld {
	w := toldWorld{schema: d.schema}
	var refs []impl.Atom
	for _, typ := range thingNames(d.schema) {
		for i := range 2 {
			refs = append(refs, refAtom(typ, fmt.Sprint("x", i)))
		}
	}
	values := func(attrs []impl.AttrKind) ([]string, []impl.Value) {
		var names []string
		var list []impl.Value
		for _, a := range attrs {
			if !a.Must && d.from.Intn(2) == 0 || d.from.Intn(200) == 0 {
				continue
			}
			kind := a.Kind
			if d.from.Intn(200) == 0 {
				kind = "set time"
			}
			item := strings.TrimPrefix(kind, "set ")
			_, typ, isRef := strings.Cut(item, " ")
			own := map[string]impl.Atom{"bool": boolAtom(1), "num": numAtom(1), "text": textAtom("a"), "dec": decAtom(1), "addr": addrAtom(0, 0), "time": timeAtom(1)}[item]
			if isRef {
				own = refAtom(typ, oneOf(d.from, []string{"x0", "x1"}))
			}
			v := atomValue(own)
			if item != kind {
				v = setValue(own)
			}
			names, list = append(names, a.Name), append(list, v)
		}
		return names, list
	}
	for _, ref := range refs {
		if d.from.Intn(60) == 0 {
			continue
		}
		x := impl.Thing{Ref: ref}
		own := d.schema.Things[slices.Index(thingNames(d.schema), ref.Type)]
		for _, up := range refs {
			if slices.Contains(own.Ups, up.Type) && d.from.Intn(2) == 0 || d.from.Intn(200) == 0 {
				x.Parents = append(x.Parents, up)
			}
		}
		x.Names, x.Values = values(own.Attrs)
		w.things = append(w.things, x)
	}
	own := oneOf(d.from, d.schema.Actions)
	w.request = impl.Request{Principal: refAtom(oneOf(d.from, own.Principals), "x0"), Action: refAtom("Action", own.Id), Resource: refAtom(oneOf(d.from, own.Resources), "x1")}
	w.request.Names, w.request.Values = values(own.Context)
	return w
}

func TestDrawnWorlds(t *testing.T) {
	from := drawn()
	good := 0
	const rounds = 3000
	for range rounds {
		w := drawnWorld(kindDrawer{from, kindCase{schema: drawnPolSchema(from)}})
		if w.ask(t) {
			good++
		}
	}
	if good < rounds/4 || good > rounds*9/10 {
		t.Errorf("%d of %d worlds are good", good, rounds)
	}
}

// kindsInLab are texts with the kind that they have in lab where a User would edit a Doc.
func kindsInLab() map[string]string {
	const boss = " && principal.boss == principal"
	return map[string]string{
		"true": "bool", "false": "bool", "1": "num", "\"a\"": "text", "1.0000": "dec", "10.0.0.0/8": "addr", "@5": "time",
		`User::"x"`: "lit User", `Nobody::"x"`: "lit Nobody", `Action::"x"`: "lit Action", `bool::"x"`: "lit bool",
		"[]": "", "[1]": "set num", "[1, 2, 1]": "set num", "[true, false]": "set bool", `["a", "b"]`: "set text", "[1.0000]": "set dec", "[0.0.0.0/0, 10.0.0.0/8]": "set addr", "[@1, @2]": "set time",
		"[1, true]": "", "[1, 1.0000]": "", "[@1, 1]": "", `["a", User::"a"]`: "", `[User::"a", "a"]`: "", "[1, 1, true]": "", "[true, 1, 1]": "",
		`[User::"a"]`: "set ref User", `[User::"a", User::"b"]`: "set ref User", `[User::"a", Doc::"a"]`: "", `[Nobody::"a", Nobody::"b"]`: "set ref Nobody", `[Action::"edit"]`: "set ref Action", `[User::"a", Nobody::"a"]`: "",
		"principal": "ref User", "action": "lit Action", "resource": "ref Doc", "context": "context",

		"principal.age": "num", "principal.admin": "bool", "principal.tags": "set text", "principal.boss": "", "principal.docs": "", "principal.nothing": "", "principal.size": "", "resource.size": "num", "resource.age": "",
		"resource.owner": "ref User", "resource.owner.age": "num", "resource.owner.boss": "", "resource.owner.size": "", "resource.readers": "set ref User", "resource.readers.age": "", "principal.age.age": "", "principal.tags.tags": "",
		"context.now": "time", "context.by": "", "context.from": "", "context.nothing": "", "context.age": "", "context.now.now": "", "action.now": "", "action.id": "", "action.age": "",
		`(User::"x").age`: "", `(Doc::"x").owner`: "", "(1).age": "", "([]).age": "", "(true).now": "", `(Action::"x").now`: "",
		"(if true then principal else principal).age": "num", "(if true then principal else resource.owner).age": "num", `(if true then principal else User::"x").age`: "", `(if true then User::"x" else principal).age`: "", "(if true then principal else resource).age": "", "(if true then principal else principal).boss": "", "(if true then context else context).now": "",

		"principal has age": "bool", "principal has boss": "bool", "principal has nothing": "bool", "resource has boss": "bool", "context has by": "bool", "context has nothing": "bool", "action has a": "bool", `User::"x" has age`: "bool", `Nobody::"x" has age`: "bool",
		"1 has age": "", "true has age": "", "[] has age": "", `[User::"x"] has age`: "", "principal.age has age": "", "principal.boss has age": "", "resource.owner has boss": "bool", "resource.readers has boss": "", "(if true then principal else principal) has boss": "bool", `(if true then principal else User::"x") has boss`: "bool", "(if true then context else context) has by": "",

		"!true": "bool", "!!true": "bool", "!1": "", "!principal": "", "!context": "", "!principal.admin": "bool", "!principal.boss": "", "!(principal has boss)": "bool",
		"-(1)": "num", "-(1.0000)": "dec", "--principal.age": "num", "-principal.pay": "dec", "-(@1)": "", "-(true)": "", "-(\"a\")": "", "-(0.0.0.0/0)": "", "-principal": "", "-[1]": "", "-context": "",

		"principal has boss && principal.boss.age < 3":                                                        "bool",
		"principal has boss" + boss:                                                                           "bool",
		"principal.boss == principal && principal has boss":                                                   "",
		"principal has boss && principal.boss == principal && principal.boss.age < 3":                         "bool",
		"principal has boss && (principal.boss == principal && principal.boss.age < 3)":                       "bool",
		"principal has boss && true" + boss:                                                                   "bool",
		"true && principal has boss" + boss:                                                                   "bool",
		"principal has boss && (true" + boss + ")":                                                            "bool",
		"principal has boss && (principal.admin || principal.boss.admin)":                                     "bool",
		"principal has boss && (principal.boss.admin || principal.admin)":                                     "bool",
		"principal has boss && (if principal.boss.admin then principal.boss.admin else principal.boss.admin)": "bool",
		"principal has boss && !principal.boss.admin":                                                         "bool",
		"principal has boss && principal in principal.boss":                                                   "bool",
		"principal has boss && resource.owner.boss == principal":                                              "",
		"principal has since" + boss:                                                                          "",
		"principal has bos" + boss:                                                                            "",
		"principal has owner" + boss:                                                                          "",
		"resource has boss" + boss:                                                                            "",
		"context has boss" + boss:                                                                             "",
		"resource.owner has boss" + boss:                                                                      "",
		"resource.owner has boss && resource.owner.boss == principal":                                         "bool",
		`User::"x" has boss` + boss:                                                                           "",
		"principal has boss && principal.boss has boss && principal.boss.boss.age < 3":                        "bool",
		"principal has boss && (principal.boss has boss && principal.boss.boss.age < 3)":                      "bool",
		"principal.boss has boss && principal has boss && principal.boss.boss.age < 3":                        "",
		"principal has boss && principal.boss.boss.age < 3":                                                   "",
		"principal has nothing && principal.nothing == 1":                                                     "",
		"context has by && context.by.age < 3":                                                                "bool",
		"context has by && context.by has boss && context.by.boss.admin":                                      "bool",
		"context has from && context.from within principal.home":                                              "bool",
		"context has by && context.from within principal.home":                                                "",
		"action has now && action.now == @1":                                                                  "",
		"principal has age && principal.age < 3":                                                              "bool",

		"(principal has boss || principal has boss)" + boss:                                         "bool",
		"(principal has boss || principal has since)" + boss:                                        "",
		"(principal has since || principal has boss)" + boss:                                        "",
		"(principal has boss || true)" + boss:                                                       "",
		"(true || principal has boss)" + boss:                                                       "",
		"(principal has boss && principal has since || principal has boss)" + boss:                  "bool",
		"(principal has boss || principal has boss && principal has since)" + boss:                  "bool",
		"(principal has boss && principal has since || principal has boss) && principal.since < @3": "",
		"(principal has boss && principal has since || principal has since && principal has boss) && (principal.since < @3 || principal.boss.admin)": "bool",
		"principal has boss || principal.boss.admin":                                   "",
		"principal.boss.admin || principal has boss":                                   "",
		"!(principal has boss) || principal.boss.admin":                                "",
		"principal has boss || principal has boss || principal.boss.admin":             "",
		"principal has boss && true || principal.boss.admin":                           "",
		"principal has boss && principal.boss.admin || principal.boss.admin":           "",
		"(principal has boss && principal.boss.admin || true) && principal.boss.admin": "",
		"principal has boss && (true || true)" + boss:                                  "bool",

		"!(principal has boss)" + boss:                                      "",
		"!!(principal has boss)" + boss:                                     "",
		"(principal has boss) == true" + boss:                               "",
		"true == (principal has boss)" + boss:                               "",
		"(if true then principal has boss else principal has boss)" + boss:  "",
		"(if principal has boss then true else false)" + boss:               "",
		"(if principal has boss then principal has boss else false)" + boss: "",

		"if principal has boss then principal.boss.admin else true":                                                         "bool",
		"if principal has boss then true else principal.boss.admin":                                                         "",
		"if principal.boss.admin then principal has boss else true":                                                         "",
		"if principal has boss && true then principal.boss else principal":                                                  "ref User",
		"if !(principal has boss) then principal else principal.boss":                                                       "",
		"if principal has boss || true then principal.boss else principal":                                                  "",
		"if principal has boss then if principal.boss has boss then principal.boss.boss else principal.boss else principal": "ref User",
		"if principal has boss then if true then true else principal.boss.admin else true":                                  "bool",
		"if principal has boss then true else if true then principal.boss.admin else true":                                  "",
		"principal has boss && (if true then true else principal.boss.admin)":                                               "bool",
		"(if true then principal else principal) has boss && (if true then principal else principal).boss.admin":            "",
		"(if true then resource else resource).owner has boss && (if true then resource else resource).owner.boss.admin":    "bool",
		"(if true then resource else resource).owner has boss && resource.owner.boss.admin":                                 "",

		"if true then 1 else 2": "num", "if true then 1 else 1.0000": "", "if true then 1 else true": "", "if 1 then 1 else 1": "", "if principal then 1 else 1": "", "if context then 1 else 1": "", "if true then [1] else [2]": "set num", "if true then [1] else [true]": "", "if true then [] else [1]": "", "if true then 1 else [1]": "",
		"if true then context else context": "", "if true then context else principal": "", "if true then 1 else context": "",
		"if true then principal else principal": "ref User", "if true then principal else resource.owner": "ref User", "if true then principal else resource": "", `if true then principal else User::"x"`: "lit User", `if true then User::"x" else principal`: "lit User", `if true then User::"x" else User::"y"`: "lit User", `if true then User::"x" else Doc::"x"`: "", `if true then principal else Doc::"x"`: "", `if true then action else Action::"x"`: "lit Action", `if true then Nobody::"x" else Nobody::"y"`: "lit Nobody", `if true then Nobody::"x" else principal`: "",
		`if true then resource.readers else [User::"x"]`: "set ref User", `if true then resource.readers else [Doc::"x"]`: "", `if true then resource.readers else principal`: "", "if principal.boss then 1 else 1": "", "if true then principal.boss else principal": "", "if true then principal else principal.boss": "",

		"1 == 1": "bool", "1 == 1.0000": "", "1 == true": "", "1 == \"a\"": "", "@1 == @2": "bool", "@1 == 1": "", "[1] == [2]": "bool", "[1] == [true]": "", "[1] == 1": "", "[] == []": "", "[1] == []": "", "true == (1 == 1)": "bool", "0.0.0.0/0 == 0.0.0.0/0": "bool",
		"principal == resource": "bool", "principal == resource.owner": "bool", `principal == User::"x"`: "bool", `User::"x" == principal`: "bool", `principal == Doc::"x"`: "bool", `Nobody::"x" == Doc::"x"`: "bool", "action == principal": "bool", `action == Action::"edit"`: "bool", "principal == 1": "", "1 == principal": "", `principal == [User::"x"]`: "", "resource.readers == resource.readers": "bool", `resource.readers == [User::"x"]`: "bool", `resource.readers == [Doc::"x"]`: "", "context == context": "", "context == principal": "", "principal == context": "", "context == 1": "", "1 == context": "", "principal.boss == principal": "", "principal == principal.boss": "",

		"1 < 2": "bool", "1 <= 2": "bool", "\"a\" < \"b\"": "bool", "\"a\" <= \"b\"": "bool", "1.0000 < 2.0000": "bool", "1.0000 <= 2.0000": "bool", "@1 < @2": "bool", "@1 <= @2": "bool", "true < false": "", "true <= false": "", "0.0.0.0/0 < 0.0.0.0/0": "", "0.0.0.0/0 <= 0.0.0.0/0": "", "principal < principal": "", "principal <= principal": "", `User::"x" < User::"y"`: "", "[1] < [2]": "", "1 < 1.0000": "", "1.0000 < 1": "", "1 <= @1": "", "\"a\" < 1": "", "context < context": "", "[\"a\"] <= [\"a\"]": "",

		"1 + 2": "num", "1 - 2": "num", "1 * 2": "num", "1.0000 + 2.0000": "dec", "1.0000 - 2.0000": "dec", "1.0000 * 2.0000": "", "1 + 1.0000": "", "1.0000 + 1": "", "1 * 1.0000": "", "\"a\" + \"b\"": "", "\"a\" - \"b\"": "", "\"a\" * \"b\"": "", "@1 + @2": "", "@2 - @1": "", "@1 * 2": "", "@1 + 1": "", "true + true": "", "[1] + [2]": "", "principal + principal": "", "context - context": "", "0.0.0.0/0 + 0.0.0.0/0": "", "principal.age + resource.size * 2 - -(1)": "num", "principal.pay - 0.5000": "dec",

		"principal in resource": "bool", "principal in principal": "bool", `principal in Team::"t"`: "bool", `User::"x" in principal`: "bool", "action in action": "bool", `Nobody::"x" in Nobody::"y"`: "bool", "principal in resource.readers": "bool", "resource in resource.readers": "bool", `User::"x" in resource.readers`: "bool", `action in [Action::"edit", Action::"view"]`: "bool", `principal in [Nobody::"x"]`: "bool", "principal in []": "", "principal in [1]": "", "principal in principal.tags": "", "principal in 1": "", "1 in principal": "", "1 in [1]": "", `[User::"x"] in [User::"x"]`: "", "resource.readers in principal": "", "principal in context": "", "context in principal": "", `"a" in principal.tags`: "", `principal in [User::"x", Doc::"x"]`: "",

		"[1] contains 1": "bool", "[1] contains true": "", "[1] contains [1]": "", "[] contains 1": "", `principal.tags contains "a"`: "bool", "principal.tags contains 1": "", "resource.readers contains principal": "bool", `resource.readers contains User::"x"`: "bool", "resource.readers contains resource": "", `resource.readers contains Doc::"x"`: "", `[User::"x"] contains principal`: "bool", `[User::"x"] contains User::"y"`: "bool", `[Doc::"x"] contains principal`: "", `[Action::"x"] contains action`: "bool", `[Nobody::"x"] contains Nobody::"y"`: "bool", "principal contains principal": "", "1 contains 1": "", "context contains 1": "", "[true] contains context": "", "resource.readers contains resource.readers": "", "principal contains resource.readers": "", `"a" contains principal.tags`: "", "[@1] contains @2": "bool", "[1.0000] contains 1.0000": "bool", "[0.0.0.0/0] contains 0.0.0.0/0": "bool", "[true] contains principal.admin": "bool",

		"0.0.0.0/0 within 0.0.0.0/0": "bool", "principal.home within 10.0.0.0/8": "bool", "principal.home within 1": "", "1 within principal.home": "", "principal within principal": "", "[0.0.0.0/0] within [0.0.0.0/0]": "", "0.0.0.0/0 within [0.0.0.0/0]": "", "context within context": "", "true within true": "", "1 within 1": "",
		`"a" like "*"`: "bool", `principal.name like "A*"`: "bool", `1 like "*"`: "", `principal like "*"`: "", `principal.tags like "*"`: "", `context like "*"`: "", `true like "*"`: "", `@1 like "*"`: "",
		"principal is User": "bool", "principal is Nobody": "bool", `Nobody::"x" is User`: "bool", "action is Action": "bool", "resource.owner is User": "bool", "context is User": "", "1 is User": "", "resource.readers is User": "", `[User::"x"] is User`: "", "true is bool": "",

		"true && true": "bool", "true || false": "bool", "1 && true": "", "true && 1": "", "1 || true": "", "true || 1": "", "principal && true": "", "context || context": "", "true && context": "", "[true] && true": "", "true && principal.boss": "", "principal.admin && resource.size < 3 || !principal.admin": "bool",
	}
}

func TestKindOf(t *testing.T) {
	s := lab()
	for text, want := range kindsInLab() {
		e := exprText(text)
		if got := impl.KindOf(s, e, "User", "edit", "Doc"); got != want {
			t.Errorf("%s: got %q, want %q", text, got, want)
		}
		askKindOf(t, s, e, "User", "edit", "Doc")
	}
}

// Each expression of kindsInLab with each principal, action and resource that the schema has, and with some that it has not.
func TestKindOfByWhatTheRequestIs(t *testing.T) {
	s := lab()
	types := append(thingNames(s), "Nobody", "Action", "", "user", "User ", "ref User")
	ids := append(actionIds(s), "", "Edit", "edits", "User", "view ")
	kinds := map[string]int{}
	for text := range kindsInLab() {
		e := exprText(text)
		for _, principal := range types {
			for _, action := range ids {
				for _, resource := range types {
					own := askKindOf(t, s, e, principal, action, resource)
					if kinds[own]++; !slices.Contains(types[:4], principal) && own != "" {
						t.Errorf("%s has a kind where %q is no Thing", text, principal)
					}
				}
			}
		}
	}
	if len(kinds) < 25 {
		t.Errorf("only %d kinds", len(kinds))
	}
	for _, c := range []struct {
		principal, action, resource, text, want string
	}{
		{"Team", "view", "Box", "principal", "ref Team"},
		{"Team", "view", "Box", "resource", "ref Box"},
		{"Doc", "edit", "Doc", "principal", "ref Doc"},
		{"Team", "edit", "Team", "principal == resource", "bool"},
		{"Box", "move.1", "User", "principal has boss && principal.boss.age == resource.age", "bool"},
		{"User", "move.1", "Doc", "context.now", ""},
		{"User", "move.1", "Doc", "context", "context"},
		{"User", "view", "Doc", "context.now", "time"},
		{"User", "view", "Doc", "context has by && context.by.admin", ""},
		{"Team", "edit", "Doc", "principal.age", ""},
		{"User", "edit", "Team", "resource.owner", ""},
		{"User", "view", "User", "resource.tags", "set text"},
		{"Nobody", "edit", "Doc", "1", ""},
		{"User", "edit", "Nobody", "1", ""},
		{"User", "nothing", "Doc", "1", ""},
		{"Action", "edit", "Doc", "1", ""},
		{"User", "", "Doc", "1", ""},
		{"", "edit", "Doc", "1", ""},
		{"User", "edit", "", "1", ""},
	} {
		if got := impl.KindOf(s, exprText(c.text), c.principal, c.action, c.resource); got != c.want {
			t.Errorf("%s, where %s would %s %s: got %q, want %q", c.text, c.principal, c.action, c.resource, got, c.want)
		}
	}
}

// Each kind of nodes with kids of each kind.
func TestKindsOfNodesByTheirKids(t *testing.T) {
	s, kinds := lab(), labKinds()
	ask := func(e []impl.Expr) string { return askKindOf(t, s, e, "User", "edit", "Doc") }
	var all [][]impl.Expr
	var first [][]impl.Expr
	for kind, texts := range kinds {
		for i, text := range texts {
			e := exprText(text)
			if got := ask(e); got != kind {
				t.Errorf("%s: got %q, want %q", text, got, kind)
			}
			if all = append(all, e); i == 0 {
				first = append(first, e)
			}
		}
	}
	found := map[string]int{}
	for _, a := range all {
		for _, e := range [][]impl.Expr{notExpr(a), negExpr(a), exprOf(impl.ExprLike, "a", a), exprOf(impl.ExprIs, "User", a), exprOf(impl.ExprHas, "age", a), exprOf(impl.ExprHas, "zip", a), getExpr(a, "age"), getExpr(a, "boss"), getExpr(a, "now"), getExpr(a, "owner"), getExpr(a, "zip")} {
			found[ask(e)]++
		}
		for _, b := range all {
			for kind := range pairKinds() {
				found[ask(exprOf(kind, "", a, b))]++
			}
			found[ask(ifExpr(exprText("true"), a, b))]++
		}
	}
	for _, a := range first {
		for _, b := range first {
			for _, c := range first {
				found[ask(ifExpr(a, b, c))]++
			}
		}
	}
	if found["bool"] < 500 || found["lit User"] < 10 || found["set ref User"] < 4 || found["num"] < 10 {
		t.Errorf("found %v", found)
	}
}

func TestKindOfNoGoodOnes(t *testing.T) {
	for _, e := range badExprs() {
		if got := impl.KindOf(lab(), e, "User", "edit", "Doc"); got != "" {
			t.Errorf("KindOf(%.300s): got %q", shown(e), got)
		}
	}
	for _, s := range badPolSchemas() {
		for _, text := range []string{"true", "principal", "context"} {
			if got := impl.KindOf(s, exprText(text), "A", "a", "B"); got != "" {
				t.Errorf("KindOf by %.300s: got %q", shown(s), got)
			}
		}
	}
	for _, s := range goodPolSchemas() {
		for _, text := range []string{"true", "principal", "context", "principal.x", "context.x", "resource.k", "principal has y && principal.y.k == principal.y.k"} {
			askKindOf(t, s, exprText(text), "A", "a", "B")
			askKindOf(t, s, exprText(text), "A", "b", "A")
		}
	}
}

// A Thing may be called as a kind is, or as what stands ahead of one.
func TestThingsCalledAsKinds(t *testing.T) {
	s := impl.PolSchema{
		Things:  []impl.ThingType{thingType("bool", "", "a num!, b ref bool!, c ref set, num ref num"), thingType("context", "", "a text!"), thingType("lit", "", "a num!"), thingType("num", "", "a bool!"), thingType("ref", "", "a num!"), thingType("set", "", "a set ref set!")},
		Actions: []impl.ActionType{actionTypeOf("context", "bool", "set", "a dec!")},
	}
	for text, want := range map[string]string{
		"principal": "ref bool", "principal.a": "num", "principal.b": "ref bool", "principal.b.b.a": "num", "resource.a": "set ref set", "resource.a contains resource": "bool", "resource in resource.a": "bool", "context.a": "dec", "(true).a": "", "(1).a": "", "([1]).a": "", "true is bool": "", "!principal": "", "!true": "bool", "if principal then 1 else 1": "",
		`bool::"x"`: "lit bool", `context::"x"`: "lit context", `(context::"x").a`: "", `[lit::"x"]`: "set ref lit", `[set::"x"] contains resource`: "bool", `if true then set::"x" else resource`: "lit set", "principal has c && principal.c.a contains principal.c": "bool", "principal has num && principal.num.a": "bool", "principal has num && principal.num": "",
	} {
		if got := impl.KindOf(s, exprText(text), "bool", "context", "set"); got != want || askKindOf(t, s, exprText(text), "bool", "context", "set") != want {
			t.Errorf("%s: got %q, want %q", text, got, want)
		}
	}
}

// All expressions of up to eight nodes out of few: two ExprHas and what they guard.
func TestKindsOfAllSmallExprs(t *testing.T) {
	s := impl.PolSchema{Things: []impl.ThingType{thingType("A", "", "b bool, m ref A")}, Actions: []impl.ActionType{actionTypeOf("a", "A", "A", "b bool")}}
	nodes := [4][]impl.Expr{
		{{Kind: impl.ExprVar, Text: "principal"}, {Kind: impl.ExprVar, Text: "context"}},
		{{Kind: impl.ExprGet, Text: "b"}, {Kind: impl.ExprHas, Text: "b"}, {Kind: impl.ExprGet, Text: "m"}, {Kind: impl.ExprHas, Text: "m"}, {Kind: impl.ExprNot}},
		{{Kind: impl.ExprAnd}, {Kind: impl.ExprOr}},
		{{Kind: impl.ExprIf}},
	}
	bySize := [][][]impl.Expr{nil}
	found := map[string]int{}
	c := kindCase{s, "A", "a", "A"}
	for size := 1; size <= 8; size++ {
		var all [][]impl.Expr
		for kids, list := range nodes {
			for _, n := range list {
				n.Kids = kids
				for _, behind := range rowsOfExprs(bySize, kids, size-1) {
					e := append([]impl.Expr{n}, behind...)
					whole := c.look(e)
					want := whole.kind
					if len(whole.needs) > 0 {
						want = ""
					}
					if got := impl.KindOf(s, e, "A", "a", "A"); got != want {
						t.Fatalf("%s: got %q, want %q", impl.ExprText(e), got, want)
					}
					// What has no kind whatever is there makes nothing that has one.
					if found[want]++; whole.kind != "" {
						all = append(all, e)
					}
				}
			}
		}
		bySize = append(bySize, all)
	}
	if found["bool"] < 1000 || found["ref A"] < 5 {
		t.Errorf("found %v", found)
	}
}

func TestDrawnKinds(t *testing.T) {
	from := drawn()
	found := map[string]int{}
	guarded := 0
	for range 300 {
		s := drawnPolSchema(from)
		types := thingNames(s)
		for range 60 {
			c := kindCase{s, oneOf(from, types), oneOf(from, actionIds(s)), oneOf(from, types)}
			d := kindDrawer{from, c}
			e := d.draw(d.anyKind(), 2+from.Intn(7), nil)
			if !goodExprByWords(e) {
				continue
			}
			kind := askKindOf(t, s, e, c.principal, c.action, c.resource)
			found[kind]++
			// Whether it has its kind by what a part of it adds.
			if kind != "" && kindIsGuarded(c, e) {
				guarded++
			}
		}
	}
	if found["bool"] < 1000 || guarded < 300 || found[""] < 500 || found["ref A"] < 100 {
		t.Errorf("found %v, guarded %d", found, guarded)
	}
}

// kindIsGuarded says whether the expression would have no kind if nothing were added: with no ExprHas of any attribute.
func kindIsGuarded(c kindCase, e []impl.Expr) bool {
	without := slices.Clone(e)
	for i := range without {
		if without[i].Kind == impl.ExprHas {
			without[i].Text = "nothing"
		}
	}
	return c.kind(without) == ""
}

// What must be there counts as if it were asked for ahead of all else, and more is never less: an expression that has a kind has it where more attributes must be there, and behind an ExprHas.
func TestMoreThatIsThereTakesNoKindAway(t *testing.T) {
	from := drawn()
	kept := 0
	for range 200 {
		s := drawnPolSchema(from)
		types := thingNames(s)
		c := kindCase{s, oneOf(from, types), oneOf(from, actionIds(s)), oneOf(from, types)}
		d := kindDrawer{from, c}
		for range 60 {
			e := d.draw("bool", 2+from.Intn(5), nil)
			kind := impl.KindOf(s, e, c.principal, c.action, c.resource)
			behind := exprOf(impl.ExprAnd, "", d.guard(nil), e)
			if !goodExprByWords(behind) || kind == "" {
				continue
			}
			kept++
			if got := impl.KindOf(s, behind, c.principal, c.action, c.resource); got != kind && impl.KindOf(s, behind[1:len(behind)-len(e)], c.principal, c.action, c.resource) == "bool" && kind == "bool" {
				t.Errorf("%s: got %q", impl.ExprText(behind), got)
			}
			more := impl.PolSchema{Things: slices.Clone(s.Things), Actions: slices.Clone(s.Actions)}
			for i, own := range more.Things {
				more.Things[i].Attrs = allMust(own.Attrs)
			}
			for i, own := range more.Actions {
				more.Actions[i].Context = allMust(own.Context)
			}
			if got := impl.KindOf(more, e, c.principal, c.action, c.resource); got != kind {
				t.Errorf("%s, where all must be there: got %q, want %q", impl.ExprText(e), got, kind)
			}
		}
	}
	if kept < 1000 {
		t.Errorf("only %d", kept)
	}
}

func allMust(attrs []impl.AttrKind) []impl.AttrKind {
	out := slices.Clone(attrs)
	for i := range out {
		out[i].Must = true
	}
	return out
}

// Expressions at their limits: all nodes, and all within each other.
func TestKindsOfTheGreatestExprs(t *testing.T) {
	s := lab()
	chain := exprText("resource.owner.age + 1")
	for within := 4; within <= 14; within++ {
		if got, want := impl.KindOf(s, chain, "User", "edit", "Doc"), within <= 12; (got == "num") != want {
			t.Errorf("%d within each other: got %q", within, got)
		}
		chain = exprOf(impl.ExprPlus, "", numExpr(1), chain)
	}
	for many := 1; many <= 9; many++ {
		e, path := exprText("principal has boss"), getExpr(principalExpr(), "boss")
		for range many - 1 {
			e, path = exprOf(impl.ExprAnd, "", e, exprOf(impl.ExprHas, "boss", path)), getExpr(path, "boss")
		}
		whole := exprOf(impl.ExprAnd, "", e, getExpr(path, "admin"))
		short := exprOf(impl.ExprAnd, "", e, getExpr(getExpr(path, "boss"), "admin"))
		if askKindOf(t, s, whole, "User", "edit", "Doc") != "bool" && goodExprByWords(whole) || askKindOf(t, s, short, "User", "edit", "Doc") != "" {
			t.Errorf("%d guards: %q", many, impl.KindOf(s, whole, "User", "edit", "Doc"))
		}
	}
	for nodes := 1; nodes <= 61; nodes += 2 {
		e := broadExpr(nodes)
		for i := range e {
			if e[i].Kind == impl.ExprLit {
				e[i].Atom = boolAtom(1)
			}
		}
		if got := impl.KindOf(s, e, "User", "edit", "Doc"); (got == "bool") != (nodes <= 60) {
			t.Errorf("%d nodes: got %q", nodes, got)
		}
	}
}

// policyWhen is a policy with that When, and heads that match all.
func policyWhen(text string) impl.Policy {
	p := plainPolicy("p")
	if text != "" {
		p.When = exprText(text)
	}
	return p
}

// allFaults are all texts that KindFaults may tell by lab.
func allFaults() []string {
	return []string{
		"User,edit,Doc",
		"Team,move.1,Box", "Team,move.1,Doc", "User,move.1,Box", "User,move.1,Doc",
		"Team,view,Box", "Team,view,Doc", "Team,view,User", "User,view,Box", "User,view,Doc", "User,view,User",
	}
}

// chosenFaults are those of all that the pattern's parts name; an empty part names all.
func chosenFaults(principal string, action string, resource string) []string {
	var out []string
	for _, text := range allFaults() {
		parts := strings.Split(text, ",")
		if (principal == "" || parts[0] == principal) && (action == "" || parts[1] == action) && (resource == "" || parts[2] == resource) {
			out = append(out, text)
		}
	}
	return out
}

func TestKindFaults(t *testing.T) {
	s := lab()
	for text, want := range map[string][]string{
		"":                     nil,
		"true":                 nil,
		"principal == 1":       allFaults(),
		"1":                    allFaults(),
		"principal":            allFaults(),
		"context":              allFaults(),
		`"bool"`:               allFaults(),
		"[true]":               allFaults(),
		"principal.admin":      chosenFaults("Team", "", ""),
		"principal has admin":  nil,
		"resource.size < 3":    append(chosenFaults("", "", "Box"), chosenFaults("", "", "User")...),
		"context.now < @3":     chosenFaults("", "move.1", ""),
		"context has now":      nil,
		"principal.boss.admin": allFaults(),
		"principal has boss && principal.boss.admin":                              chosenFaults("Team", "", ""),
		"resource has boss && resource.boss.admin":                                chosenFaults("", "", "Doc"),
		"principal is User && principal.admin":                                    chosenFaults("Team", "", ""),
		"if principal == resource then resource.owner.admin else principal.admin": {"Team,move.1,Box", "Team,move.1,Doc", "User,move.1,Box", "Team,view,Box", "Team,view,Doc", "Team,view,User", "User,view,Box", "User,view,User"},
	} {
		want = slices.Clone(want)
		slices.SortFunc(want, func(a, b string) int { return slices.Index(allFaults(), a) - slices.Index(allFaults(), b) })
		for _, permit := range []bool{true, false} {
			p := policyWhen(text)
			p.Permit = permit
			if got := impl.KindFaults(s, p); !slices.Equal(got, want) {
				t.Errorf("%s: got %v, want %v", text, got, want)
			}
			askKindFaults(t, s, p)
		}
	}
}

// headCase is a head with the Type or Id for which alone it may match; the empty text where that is any, and `none` where there is none.
type headCase struct {
	head impl.Head
	only string
}

func TestKindFaultsByHeads(t *testing.T) {
	heads := []headCase{
		{anyHead(), ""}, {impl.Head{Kind: impl.HeadSlot}, ""}, {impl.Head{Kind: impl.HeadInSlot}, ""},
		{refHead(impl.HeadIn, "Team", "t"), ""}, {refHead(impl.HeadIn, "Nobody", "t"), ""}, {refHead(impl.HeadIn, "User", "t"), ""}, {refHead(impl.HeadIn, "Box", "t"), ""},
	}
	for _, typ := range []string{"Box", "Doc", "Team", "User", "Nobody", "user", "Action"} {
		heads = append(heads, headCase{isHead(typ), typ}, headCase{refHead(impl.HeadSame, typ, "x"), typ}, headCase{refHead(impl.HeadSame, typ, "User"), typ})
	}
	actions := []headCase{
		{anyHead(), ""}, {isHead("Action"), ""}, {isHead("action"), "none"}, {isHead("User"), "none"}, {isHead("edit"), "none"},
		{refHead(impl.HeadSame, "Action", "nothing"), "none"}, {refHead(impl.HeadSame, "Action", "Action"), "none"}, {refHead(impl.HeadIn, "Action", "*"), "none"},
	}
	for _, id := range []string{"edit", "move.1", "view"} {
		for _, kind := range []int{impl.HeadSame, impl.HeadIn} {
			actions = append(actions, headCase{refHead(kind, "Action", id), id}, headCase{refHead(kind, "User", id), "none"}, headCase{refHead(kind, "Actions", id), "none"}, headCase{refHead(kind, "Action", id+"."), "none"})
		}
	}
	s := lab()
	for _, principal := range heads {
		for _, action := range actions {
			for _, resource := range heads {
				p := policyWhen("1")
				p.Principal, p.Action, p.Resource = principal.head, action.head, resource.head
				if got, want := impl.KindFaults(s, p), chosenFaults(principal.only, action.only, resource.only); !slices.Equal(got, want) {
					t.Errorf("%s: got %v, want %v", impl.PolicyText(p), got, want)
				}
				askKindFaults(t, s, p)
				p.When = exprText("true")
				if got := impl.KindFaults(s, p); len(got) != 0 {
					t.Errorf("%s: got %v", impl.PolicyText(p), got)
				}
			}
		}
	}
}

// A policy has no fault just where its When has the kind of a test.
func TestKindFaultsAreThoseOfKindOf(t *testing.T) {
	s := lab()
	for text := range kindsInLab() {
		p := policyWhen(text)
		faults := askKindFaults(t, s, p)
		for _, one := range allFaults() {
			parts := strings.Split(one, ",")
			if kind := impl.KindOf(s, p.When, parts[0], parts[1], parts[2]); slices.Contains(faults, one) == (kind == "bool") {
				t.Errorf("%s: faults %v, but for %s it has the kind %q", text, faults, one, kind)
			}
		}
	}
}

func TestKindFaultsOfNoGoodOnes(t *testing.T) {
	for _, p := range badPolicies() {
		if len(p.When) == 0 {
			p.When = numExpr(1)
		}
		if got := impl.KindFaults(lab(), p); len(got) != 0 || cap(got) != 0 {
			t.Errorf("KindFaults(%.300s): got %v", shown(p), got)
		}
	}
	for _, s := range badPolSchemas() {
		if got := impl.KindFaults(s, policyWhen("1")); len(got) != 0 || cap(got) != 0 {
			t.Errorf("KindFaults by %.300s: got %v", shown(s), got)
		}
	}
	for _, s := range goodPolSchemas() {
		askKindFaults(t, s, policyWhen("1"))
		askKindFaults(t, s, policyWhen("principal has y && principal.y has k"))
	}
}

func TestTheMostKindFaults(t *testing.T) {
	s := fullSchema()
	got := impl.KindFaults(s, policyWhen("principal"))
	if len(got) != 8000 || got[0] != "n100,a100,n100" || got[1] != "n100,a100,n101" || got[20] != "n101,a100,n100" || got[400] != "n100,a101,n100" || got[7999] != "n119,a119,n119" {
		t.Errorf("%d faults", len(got))
	}
	if again := askKindFaults(t, s, policyWhen("principal.n101 == 1")); len(again) != 8000 {
		t.Errorf("%d faults", len(again))
	}
	if none := impl.KindFaults(s, policyWhen("principal.n100 == 1")); len(none) != 0 {
		t.Errorf("%d faults", len(none))
	}
}

func TestDrawnKindFaults(t *testing.T) {
	from := drawn()
	some, none := 0, 0
	for range 1500 {
		s := drawnPolSchema(from)
		types := append(thingNames(s), "Action", "C")
		texts := append(actionIds(s), "x")
		d := kindDrawer{from, kindCase{s, s.Actions[0].Principals[0], s.Actions[0].Id, s.Actions[0].Resources[0]}}
		p := plainPolicy("p")
		p.Principal, p.Action, p.Resource = drawnHead(from, types, texts, true), drawnHead(from, append(types, "Action", "Action", "Action"), texts, false), drawnHead(from, types, texts, true)
		if from.Intn(20) > 0 {
			p.When = d.draw("bool", 2+from.Intn(5), nil)
		}
		if !goodPolicyByWords(p) {
			continue
		}
		if len(askKindFaults(t, s, p)) > 0 {
			some++
		} else {
			none++
		}
	}
	if some < 150 || none < 300 {
		t.Errorf("%d with faults, %d without", some, none)
	}
}
