package tests

import (
	"reflect"
	"slices"
	"strings"
	"testing"

	"loop.example/g00036/impl"
)

// kindArguments are all that the functions of the chapter take, but for texts.
type kindArguments struct {
	world  toldWorld
	expr   []impl.Expr
	policy impl.Policy
	value  impl.Value
}

func plainKindArguments() kindArguments {
	p := plainPolicy("p")
	p.When = exprText("principal has boss && principal.boss.age < 3")
	return kindArguments{labWorld(), slices.Clone(p.When), p, valueOf(`[User::"a",User::"b"]`)}
}

// askWords holds all functions of the chapter against the words.
func (a kindArguments) askWords(t *testing.T) {
	t.Helper()
	w := a.world
	askThings(t, w.things)
	askRequest(t, w.request)
	askPolSchema(t, w.schema)
	askFits(t, a.value, "set ref User")
	w.ask(t)
	askKindOf(t, w.schema, a.expr, "User", "edit", "Doc")
	askKindFaults(t, w.schema, a.policy)
}

// oddKindTexts are texts of every sort, kinds and names among them.
func oddKindTexts() []string {
	texts := append(noKinds(), kindTexts()...)
	for i, text := range oddTexts() {
		if i%10 == 0 {
			texts = append(texts, text)
		}
	}
	texts = append(texts, badIds()...)
	texts = append(texts, longName("n"), longId("n"), "User", "edit", "Action", "age", "zip", "principal", "context", "principal.boss", "ref User", "set ref Doc", "lit User", "User,edit,Doc")
	for _, piece := range []string{"ref ", "set ", "lit ", "set ref ", "ref set ", "A", " ", "principal.", ".boss"} {
		texts = append(texts, strings.Repeat(piece, 3000), "ref "+strings.Repeat(piece, 3000), "set "+strings.Repeat(piece, 3000))
	}
	return texts
}

// textPlaces put a text in each place that has one.
func textPlaces(text string) []func(a *kindArguments) {
	return []func(a *kindArguments){
		func(a *kindArguments) { a.world.schema.Things[1].Name = text },
		func(a *kindArguments) { a.world.schema.Things[3].Name = text },
		func(a *kindArguments) { a.world.schema.Things[1].Ups[0] = text },
		func(a *kindArguments) { a.world.schema.Things[3].Ups = []string{"Team", text} },
		func(a *kindArguments) { a.world.schema.Things[3].Attrs[2].Name = text },
		func(a *kindArguments) { a.world.schema.Things[3].Attrs[2].Kind = text },
		func(a *kindArguments) { a.world.schema.Actions[0].Id = text },
		func(a *kindArguments) { a.world.schema.Actions[0].Principals[0] = text },
		func(a *kindArguments) { a.world.schema.Actions[0].Resources[0] = text },
		func(a *kindArguments) { a.world.schema.Actions[0].Context[0].Name = text },
		func(a *kindArguments) { a.world.schema.Actions[0].Context[0].Kind = text },
		func(a *kindArguments) { a.world.things[0].Ref.Type = text },
		func(a *kindArguments) { a.world.things[0].Ref.Text = text },
		func(a *kindArguments) { a.world.things[1].Parents[0].Type = text },
		func(a *kindArguments) { a.world.things[1].Parents[0].Text = text },
		func(a *kindArguments) { a.world.things[0].Names[0] = text },
		func(a *kindArguments) { a.world.things[0].Values[0].Atom.Text = text },
		func(a *kindArguments) { a.world.things[2].Values[3].Items[0].Type = text },
		func(a *kindArguments) { a.world.things[2].Values[3].Names = []string{text} },
		func(a *kindArguments) { a.world.request.Principal.Type = text },
		func(a *kindArguments) { a.world.request.Action.Type = text },
		func(a *kindArguments) { a.world.request.Action.Text = text },
		func(a *kindArguments) { a.world.request.Resource.Text = text },
		func(a *kindArguments) { a.world.request.Names[0] = text },
		func(a *kindArguments) { a.world.request.Values[0].Atom.Type = text },
		func(a *kindArguments) { a.expr[1].Text = text },
		func(a *kindArguments) { a.expr[2].Text = text },
		func(a *kindArguments) { a.policy.Id = text },
		func(a *kindArguments) { a.policy.Principal = isHead(text) },
		func(a *kindArguments) { a.policy.Action = refHead(impl.HeadIn, "Action", text) },
		func(a *kindArguments) { a.policy.Action = isHead(text) },
		func(a *kindArguments) { a.policy.Resource = refHead(impl.HeadSame, text, "d") },
		func(a *kindArguments) { a.policy.When[4].Text = text },
		func(a *kindArguments) { a.policy.When[1].Text = text },
		func(a *kindArguments) { a.value.Items[0].Type = text },
	}
}

func TestKindsAnswerAtAnyText(t *testing.T) {
	s := lab()
	e := exprText("principal")
	values := []impl.Value{{}, setValue(), setValue(refAtom("A", "a")), atomValue(refAtom("A", "a")), atomValue(numAtom(1)), recordValue(nil)}
	for _, text := range oddKindTexts() {
		for _, place := range textPlaces(text) {
			a := plainKindArguments()
			place(&a)
			a.askWords(t)
		}
		for _, v := range values {
			askFits(t, v, text)
		}
		askKindOf(t, s, e, text, "edit", "Doc")
		askKindOf(t, s, e, "User", text, "Doc")
		askKindOf(t, s, e, "User", "edit", text)
		askKindOf(t, s, e, text, text, text)
	}
}

// numberPlaces put a number in each place that has one.
func numberPlaces(num int) []func(a *kindArguments) {
	return []func(a *kindArguments){
		func(a *kindArguments) { a.world.things[0].Ref.Kind = num },
		func(a *kindArguments) { a.world.things[0].Ref.Num = num },
		func(a *kindArguments) { a.world.things[1].Parents[0].Kind = num },
		func(a *kindArguments) { a.world.things[0].Values[0].Kind = num },
		func(a *kindArguments) { a.world.things[0].Values[0].Atom.Kind = num },
		func(a *kindArguments) { a.world.things[2].Values[3].Kind = num },
		func(a *kindArguments) { a.world.things[2].Values[3].Items[1].Kind = num },
		func(a *kindArguments) { a.world.things[2].Values[4].Atom.Num = num },
		func(a *kindArguments) { a.world.things[2].Values[0].Atom.Num = num },
		func(a *kindArguments) { a.world.request.Principal.Kind = num },
		func(a *kindArguments) { a.world.request.Action.Num = num },
		func(a *kindArguments) { a.world.request.Resource.Kind = num },
		func(a *kindArguments) { a.world.request.Values[2].Atom.Kind = num },
		func(a *kindArguments) { a.world.request.Values[1].Kind = num },
		func(a *kindArguments) { a.expr[0].Kind = num },
		func(a *kindArguments) { a.expr[1].Kids = num },
		func(a *kindArguments) { a.expr[len(a.expr)-1].Atom.Kind = num },
		func(a *kindArguments) { a.policy.Principal.Kind = num },
		func(a *kindArguments) { a.policy.Action.Kind = num },
		func(a *kindArguments) { a.policy.Resource = impl.Head{Kind: num, Type: "Doc"} },
		func(a *kindArguments) { a.policy.Action = refHead(num, "Action", "edit") },
		func(a *kindArguments) { a.policy.When[3].Kind = num },
		func(a *kindArguments) { a.policy.When[0].Kids = num },
		func(a *kindArguments) { a.value.Kind = num },
		func(a *kindArguments) { a.value.Items[1].Kind = num },
	}
}

func TestKindsAnswerAtAnyNumbers(t *testing.T) {
	for _, num := range append(oddInts(), 5, 6, 7, 8, 9, 10, 11, 12, 13, 14, 15, 16, 17, 18, 22) {
		for _, place := range numberPlaces(num) {
			a := plainKindArguments()
			place(&a)
			a.askWords(t)
		}
	}
}

func TestKindsAnswerAtAnyValue(t *testing.T) {
	kinds := append(kindTexts(), "", "ref ", "set set num", "set ref nobody", "context")
	for _, v := range oddValues() {
		for _, kind := range kinds {
			askFits(t, v, kind)
		}
		for _, change := range []func(a *kindArguments){
			func(a *kindArguments) { a.world.things[0].Values[0] = v },
			func(a *kindArguments) { a.world.things[5].Values[2] = v },
			func(a *kindArguments) { a.world.things[5].Values[6] = v },
			func(a *kindArguments) { a.world.request.Values[1] = v },
			func(a *kindArguments) { a.world.request.Values[2] = v },
			func(a *kindArguments) { a.world.things[1].Parents = v.Items },
			func(a *kindArguments) { a.world.things[1].Names = v.Names },
			func(a *kindArguments) { a.world.schema.Things[3].Ups = v.Names },
			func(a *kindArguments) { a.world.schema.Actions[1].Principals = v.Names },
		} {
			a := plainKindArguments()
			change(&a)
			a.askWords(t)
		}
	}
	for _, atom := range oddAtoms() {
		for _, change := range []func(a *kindArguments){
			func(a *kindArguments) { a.world.things[0].Ref = atom },
			func(a *kindArguments) { a.world.things[6].Ref = atom },
			func(a *kindArguments) { a.world.things[2].Parents[1] = atom },
			func(a *kindArguments) { a.world.things[2].Values[3].Items[1] = atom },
			func(a *kindArguments) { a.world.request.Principal = atom },
			func(a *kindArguments) { a.world.request.Action = atom },
			func(a *kindArguments) { a.world.request.Resource = atom },
			func(a *kindArguments) { a.expr = litExpr(atom) },
			func(a *kindArguments) { a.expr = setExpr(atom, atom) },
			func(a *kindArguments) { a.expr = getExpr(litExpr(atom), "age") },
			func(a *kindArguments) { a.policy.Principal = impl.Head{Kind: impl.HeadSame, Atom: atom} },
			func(a *kindArguments) { a.policy.Action = impl.Head{Kind: impl.HeadIn, Atom: atom} },
		} {
			a := plainKindArguments()
			change(&a)
			a.askWords(t)
		}
	}
}

func TestKindsAnswerAtAnyLists(t *testing.T) {
	for _, list := range append(goodThingLists(), badThingLists()...) {
		a := plainKindArguments()
		a.world.things = list
		a.world.ask(t)
	}
	for _, r := range append(goodRequests(), badRequests()...) {
		a := plainKindArguments()
		a.world.request = r
		a.world.ask(t)
	}
	for _, s := range append(goodPolSchemas(), badPolSchemas()...) {
		a := plainKindArguments()
		a.world.schema = s
		a.askWords(t)
	}
	for _, e := range badExprs() {
		a := plainKindArguments()
		a.expr, a.policy.When = e, e
		askKindOf(t, a.world.schema, a.expr, "User", "edit", "Doc")
		askKindFaults(t, a.world.schema, a.policy)
	}
	for _, p := range badPolicies() {
		askKindFaults(t, lab(), p)
	}
}

func roomyAttrs(attrs []impl.AttrKind) []impl.AttrKind {
	return withRoom(attrs, impl.AttrKind{Name: "behind"})
}

func roomyPolSchema(s impl.PolSchema) impl.PolSchema {
	s.Things = withRoom(s.Things, impl.ThingType{Name: "behind"})
	s.Actions = withRoom(s.Actions, impl.ActionType{Id: "behind"})
	for i, x := range s.Things {
		s.Things[i].Ups, s.Things[i].Attrs = withRoom(x.Ups, "behind"), roomyAttrs(x.Attrs)
	}
	for i, x := range s.Actions {
		s.Actions[i].Principals, s.Actions[i].Resources, s.Actions[i].Context = withRoom(x.Principals, "behind"), withRoom(x.Resources, "behind"), roomyAttrs(x.Context)
	}
	return s
}

func openedPolSchema(s impl.PolSchema) impl.PolSchema {
	s.Things, s.Actions = opened(s.Things), opened(s.Actions)
	for i, x := range s.Things {
		s.Things[i].Ups, s.Things[i].Attrs = opened(x.Ups), opened(x.Attrs)
	}
	for i, x := range s.Actions {
		s.Actions[i].Principals, s.Actions[i].Resources, s.Actions[i].Context = opened(x.Principals), opened(x.Resources), opened(x.Context)
	}
	return s
}

func scribblePolSchema(s impl.PolSchema) {
	for _, x := range s.Things {
		scribble(x.Ups, "scribbled")
		scribble(x.Attrs, impl.AttrKind{Name: "scribbled"})
	}
	for _, x := range s.Actions {
		scribble(x.Principals, "scribbled")
		scribble(x.Resources, "scribbled")
		scribble(x.Context, impl.AttrKind{Name: "scribbled"})
	}
	scribble(s.Things, impl.ThingType{Name: "scribbled"})
	scribble(s.Actions, impl.ActionType{Id: "scribbled"})
}

func roomyValue(v impl.Value) impl.Value {
	v.Items, v.Names = withRoom(v.Items, textAtom("behind")), withRoom(v.Names, "behind")
	return v
}

func openedValue(v impl.Value) impl.Value {
	v.Items, v.Names = opened(v.Items), opened(v.Names)
	return v
}

func roomyValues(values []impl.Value) []impl.Value {
	out := withRoom(values, impl.Value{Kind: 77})
	for i, v := range out {
		out[i] = roomyValue(v)
	}
	return out
}

func openedValues(values []impl.Value) []impl.Value {
	out := opened(values)
	for i, v := range out {
		out[i] = openedValue(v)
	}
	return out
}

func roomyThings(list []impl.Thing) []impl.Thing {
	out := withRoom(list, impl.Thing{Names: []string{"behind"}})
	for i, x := range out {
		out[i].Parents, out[i].Names, out[i].Values = withRoom(x.Parents, textAtom("behind")), withRoom(x.Names, "behind"), roomyValues(x.Values)
	}
	return out
}

func openedThings(list []impl.Thing) []impl.Thing {
	out := opened(list)
	for i, x := range out {
		out[i].Parents, out[i].Names, out[i].Values = opened(x.Parents), opened(x.Names), openedValues(x.Values)
	}
	return out
}

func roomyRequest(r impl.Request) impl.Request {
	r.Names, r.Values = withRoom(r.Names, "behind"), roomyValues(r.Values)
	return r
}

func openedRequest(r impl.Request) impl.Request {
	r.Names, r.Values = opened(r.Names), openedValues(r.Values)
	return r
}

func (a kindArguments) roomy() kindArguments {
	behind := impl.Expr{Kind: impl.ExprVar, Text: "action"}
	a.world = toldWorld{roomyPolSchema(a.world.schema), roomyThings(a.world.things), roomyRequest(a.world.request)}
	a.expr, a.policy.When, a.value = withRoom(a.expr, behind), withRoom(a.policy.When, behind), roomyValue(a.value)
	return a
}

func (a kindArguments) opened() kindArguments {
	a.world = toldWorld{openedPolSchema(a.world.schema), openedThings(a.world.things), openedRequest(a.world.request)}
	a.expr, a.policy.When, a.value = opened(a.expr), opened(a.policy.When), openedValue(a.value)
	return a
}

// ask is all that the functions of the chapter answer; only the last one is a list.
func (a kindArguments) ask() ([]any, []string) {
	w := a.world
	kind := impl.KindOf(w.schema, a.expr, "User", "edit", "Doc")
	return []any{impl.GoodThings(w.things), impl.GoodRequest(w.request), impl.GoodPolSchema(w.schema), impl.FitsKind(a.value, "set ref User"), impl.GoodWorld(w.schema, w.things, w.request), kind}, impl.KindFaults(w.schema, a.policy)
}

func manyKindArguments() []kindArguments {
	var all []kindArguments
	for _, text := range []string{"principal", "principal has boss && principal.boss.age < 3", "principal.boss", "1", "[1, 2]", "if principal has boss then principal.boss else principal", "resource.readers contains principal"} {
		a := plainKindArguments()
		a.expr, a.policy.When = exprText(text), exprText(text)
		all = append(all, a)
	}
	for _, c := range append(harmless(), harmful()...) {
		a := plainKindArguments()
		c.change(&a.world)
		a.policy.When = exprText("principal.age")
		all = append(all, a)
	}
	for _, s := range append(goodPolSchemas(), badPolSchemas()[:200]...) {
		if len(s.Things) < 1000 && len(s.Actions) < 1000 {
			a := plainKindArguments()
			a.world.schema = s
			all = append(all, a)
		}
	}
	for _, list := range goodThingLists() {
		a := plainKindArguments()
		a.world.things = list
		all = append(all, a)
	}
	for _, v := range goodValues() {
		a := plainKindArguments()
		a.value = v.value
		all = append(all, a)
	}
	return all
}

func TestArgumentsOfKindsStayAsTheyWere(t *testing.T) {
	for i, told := range manyKindArguments() {
		a := told.roomy()
		before := a.opened()
		_, faults := a.ask()
		if !reflect.DeepEqual(a.opened(), before) {
			t.Errorf("arguments %d changed", i)
		}
		scribble(faults, "scribbled")
		if !reflect.DeepEqual(a.opened(), before) {
			t.Errorf("arguments %d changed with their answers", i)
		}
	}
}

func TestAnswersOfKindsShareNothing(t *testing.T) {
	told := 0
	for i, own := range manyKindArguments() {
		a := own.roomy()
		rest, kept := a.ask()
		kept = slices.Clone(kept)
		_, first := a.ask()
		again, second := a.ask()
		scribble(first, "scribbled")
		scribblePolSchema(a.world.schema)
		scribble(a.policy.When, impl.Expr{Kind: -7})
		if told += len(kept); !slices.Equal(second, kept) || !reflect.DeepEqual(rest, again) {
			t.Errorf("answers %d changed with their arguments, or with other answers", i)
		}
	}
	if told < 500 {
		t.Errorf("only %d faults", told)
	}
}

func TestAnEmptyListOfKindsIsTheNilList(t *testing.T) {
	empty := impl.PolSchema{
		Things:  []impl.ThingType{{Name: "A", Ups: []string{}, Attrs: []impl.AttrKind{}}},
		Actions: []impl.ActionType{{Id: "a", Principals: []string{"A"}, Resources: []string{"A"}, Context: []impl.AttrKind{}}},
	}
	none := impl.PolSchema{
		Things:  []impl.ThingType{{Name: "A"}},
		Actions: []impl.ActionType{{Id: "a", Principals: []string{"A"}, Resources: []string{"A"}}},
	}
	ref := refAtom("A", "x")
	full := impl.Request{Principal: ref, Action: refAtom("Action", "a"), Resource: ref, Names: []string{}, Values: []impl.Value{}}
	bare := impl.Request{Principal: ref, Action: refAtom("Action", "a"), Resource: ref}
	things := [][]impl.Thing{{{Ref: ref}}, {{Ref: ref, Parents: []impl.Atom{}, Names: []string{}, Values: []impl.Value{}}}}
	for _, s := range []impl.PolSchema{empty, none} {
		for _, r := range []impl.Request{full, bare} {
			for _, list := range things {
				if !impl.GoodPolSchema(s) || !impl.GoodRequest(r) || !impl.GoodThings(list) || !impl.GoodWorld(s, list, r) {
					t.Errorf("an empty list is not taken as the nil list")
				}
			}
		}
		for _, when := range [][]impl.Expr{nil, {}, principalExpr()[:0]} {
			p := plainPolicy("p")
			p.When = when
			if got := impl.KindFaults(s, p); got != nil {
				t.Errorf("an empty When: got %v", got)
			}
			if got := impl.KindOf(s, when, "A", "a", "A"); got != "" {
				t.Errorf("KindOf no expression: got %q", got)
			}
		}
		for _, text := range []string{"true", "principal has a"} {
			if got := impl.KindFaults(s, policyWhen(text)); got != nil {
				t.Errorf("%s: got %v", text, got)
			}
		}
	}
	for _, v := range []impl.Value{{Kind: impl.ValueSet}, {Kind: impl.ValueSet, Items: []impl.Atom{}, Names: []string{}}} {
		if !impl.FitsKind(v, "set ref A") || impl.FitsKind(v, "ref A") {
			t.Errorf("an empty set is not taken as one")
		}
	}
	if !impl.GoodThings(nil) || !impl.GoodThings([]impl.Thing{}) || !impl.GoodPolSchema(impl.PolSchema{}) {
		t.Errorf("no things, or a schema of none, are not good")
	}
}

func TestKindsAnswerTheSameAgain(t *testing.T) {
	for i, a := range manyKindArguments() {
		first, faults := a.ask()
		for range 3 {
			again, others := a.ask()
			if !reflect.DeepEqual(first, again) || !slices.Equal(faults, others) {
				t.Errorf("answers %d are others when they are asked again", i)
			}
		}
	}
}
