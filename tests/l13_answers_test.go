package tests

import (
	"fmt"
	"reflect"
	"slices"
	"testing"

	"loop.example/g00036/impl"
)

// partArguments are all that the functions of the chapter take; the ref and the head count for nothing here.
type partArguments struct {
	decideArguments
	unknown []string
}

func plainPartArguments() partArguments {
	a := partArguments{plainDecideArguments(), []string{"context.n", "resource"}}
	a.expr = exprText("principal has age && resource.readers contains context.who")
	a.policies[1].When = exprText("resource.owner")
	return a
}

// askWords holds all functions of the chapter against the words.
func (a partArguments) askWords(t *testing.T) {
	t.Helper()
	askFold(t, a.things, a.request, a.expr, a.unknown)
	askResidual(t, a.things, a.request, a.policies, a.unknown)
	askSlicePolicies(t, a.things, a.request, a.policies)
	askSliceThings(t, a.things, a.request, a.policies)
}

func TestPartsAnswerAtAnyText(t *testing.T) {
	texts := append(oddKindTexts(), "Group", "g", "top", "ann", "bob", "view", "read", "hat", "n", "action", "context", "context.", "context.n", "context.n.n", "context. ", "resource", "*")
	for _, text := range texts {
		for _, place := range decideTextPlaces(text) {
			a := plainPartArguments()
			place(&a.decideArguments)
			a.askWords(t)
		}
		for _, unknown := range [][]string{{text}, {"action", text}, {text, "resource"}, {"context", text, "principal"}, {"context." + text}, {"context", "context." + text}, {text, text}} {
			a := plainPartArguments()
			a.unknown = unknown
			a.askWords(t)
		}
	}
}

func TestPartsAnswerAtAnyNumbers(t *testing.T) {
	for _, num := range append(oddInts(), 5, 6, 7, 8, 9, 10, 11, 12, 13, 14, 15, 16, 17, 18, 22) {
		for _, place := range decideNumberPlaces(num) {
			a := plainPartArguments()
			place(&a.decideArguments)
			a.askWords(t)
		}
	}
}

func TestPartsAnswerAtAnyValue(t *testing.T) {
	ask := func(change func(a *partArguments)) {
		a := plainPartArguments()
		change(&a)
		a.askWords(t)
	}
	for _, v := range oddValues() {
		ask(func(a *partArguments) { a.things[1].Values[9] = v })
		ask(func(a *partArguments) { a.things[7].Values[0] = v })
		ask(func(a *partArguments) { a.request.Values[0] = v; a.expr = getExpr(varExpr("context"), "due") })
		ask(func(a *partArguments) { a.things[7].Parents = v.Items })
		ask(func(a *partArguments) { a.things[1].Names = v.Names })
		ask(func(a *partArguments) { a.request.Names = v.Names })
		ask(func(a *partArguments) { a.unknown = v.Names })
	}
	for _, atom := range oddAtoms() {
		ask(func(a *partArguments) { a.things[8].Ref = atom })
		ask(func(a *partArguments) { a.things[7].Parents[0] = atom })
		ask(func(a *partArguments) { a.things[7].Values[1].Atom = atom })
		ask(func(a *partArguments) { a.things[1].Values[9].Items[1] = atom })
		ask(func(a *partArguments) { a.request.Principal = atom })
		ask(func(a *partArguments) { a.request.Action = atom })
		ask(func(a *partArguments) { a.request.Resource = atom })
		ask(func(a *partArguments) { a.request.Values[7].Atom = atom })
		ask(func(a *partArguments) { a.expr, a.policies[0].When = litExpr(atom), litExpr(atom) })
		ask(func(a *partArguments) { a.expr, a.policies[0].When = setExpr(atom, atom), setExpr(numAtom(1), atom) })
		ask(func(a *partArguments) { a.expr = exprOf(impl.ExprAnd, "", litExpr(atom), exprText("resource is Doc")) })
		ask(func(a *partArguments) {
			a.expr = ifExpr(litExpr(atom), exprText("resource is Doc"), exprText("context.n"))
		})
		ask(func(a *partArguments) { a.policies[0].Principal = impl.Head{Kind: impl.HeadSame, Atom: atom} })
		ask(func(a *partArguments) { a.policies[0].Resource = impl.Head{Kind: impl.HeadIn, Atom: atom} })
	}
}

func TestPartsAnswerAtAnyLists(t *testing.T) {
	ask := func(change func(a *partArguments)) {
		a := plainPartArguments()
		change(&a)
		a.askWords(t)
	}
	for _, list := range append(goodThingLists(), badThingLists()...) {
		ask(func(a *partArguments) { a.things = list })
	}
	for _, r := range append(goodRequests(), badRequests()...) {
		ask(func(a *partArguments) { a.request = r })
	}
	for _, e := range badExprs() {
		ask(func(a *partArguments) { a.expr, a.policies[1].When = e, e })
	}
	for _, g := range goodExprs() {
		ask(func(a *partArguments) { a.expr, a.policies[0].When = g.expr, g.expr })
		ask(func(a *partArguments) { a.expr, a.unknown = g.expr, []string{"principal"} })
		ask(func(a *partArguments) {
			a.expr, a.unknown = g.expr, []string{"action", "context", "principal", "resource"}
		})
	}
	for _, p := range badPolicies() {
		ask(func(a *partArguments) { a.policies[1] = p })
	}
	for _, g := range goodPolicies() {
		ask(func(a *partArguments) { a.policies[1] = g.policy })
	}
	for _, unknown := range append(goodUnknowns(), badUnknowns()...) {
		ask(func(a *partArguments) { a.unknown = unknown })
	}
	var none partArguments
	none.askWords(t)
}

func (a partArguments) roomy() partArguments {
	return partArguments{a.decideArguments.roomy(), withRoom(a.unknown, "action")}
}

func (a partArguments) opened() partArguments {
	return partArguments{a.decideArguments.opened(), opened(a.unknown)}
}

func (a partArguments) scribbleOver() {
	a.decideArguments.scribbleOver()
	scribble(a.unknown, "scribbled")
}

// partAnswers are all that the functions of the chapter answer.
type partAnswers struct {
	folded   []impl.Expr
	left     []impl.Policy
	policies []impl.Policy
	things   []impl.Thing
}

func (a partArguments) ask() partAnswers {
	return partAnswers{
		folded:   impl.FoldExpr(a.things, a.request, a.expr, a.unknown),
		left:     impl.Residual(a.things, a.request, a.policies, a.unknown),
		policies: impl.SlicePolicies(a.things, a.request, a.policies),
		things:   impl.SliceThings(a.things, a.request, a.policies),
	}
}

// told is all of the answers as a text, in memory of its own.
func (r partAnswers) told() string {
	return shown(r)
}

func (r partAnswers) scribbleOver() {
	decideArguments{expr: r.folded, policies: r.left, things: r.things}.scribbleOver()
	decideArguments{policies: r.policies}.scribbleOver()
}

// span is the memory of one list, from its first byte to the one behind its room.
type span struct {
	from, to uintptr
	what     string
}

// spansOf are the memory of all lists within a value.
func spansOf(v reflect.Value, what string) []span {
	var all []span
	switch v.Kind() {
	case reflect.Struct:
		for i := range v.NumField() {
			all = append(all, spansOf(v.Field(i), what+"."+v.Type().Field(i).Name)...)
		}
	case reflect.Slice:
		if v.Cap() > 0 {
			all = append(all, span{v.Pointer(), v.Pointer() + uintptr(v.Cap())*v.Type().Elem().Size(), what})
		}
		for i := range v.Len() {
			all = append(all, spansOf(v.Index(i), fmt.Sprint(what, "[", i, "]"))...)
		}
	}
	return all
}

// shared tells two lists that share memory, if there are any.
func shared(spans []span) string {
	slices.SortFunc(spans, func(a, b span) int { return int(a.from) - int(b.from) })
	for i := 1; i < len(spans); i++ {
		if spans[i].from < spans[i-1].to {
			return spans[i-1].what + " and " + spans[i].what
		}
	}
	return ""
}

func manyPartArguments() []partArguments {
	var all []partArguments
	add := func(change func(a *partArguments)) {
		a := plainPartArguments()
		change(&a)
		all = append(all, a)
	}
	for _, c := range foldsAtDesk() {
		add(func(a *partArguments) {
			a.expr, a.unknown, a.policies[0].When = exprText(c.text), c.unknown, exprText(c.text)
		})
	}
	for _, c := range residualCases() {
		add(func(a *partArguments) {
			p := policiesOf(`permit "p" ` + c.policy + ";\n")[0]
			q := p
			q.Id = "q"
			a.policies = []impl.Policy{p, q}
		})
	}
	for _, c := range hallCases() {
		add(func(a *partArguments) {
			a.things, a.request = hallOf(c.rows), hallRequest()
			a.request.Names, a.request.Values = fieldsOf(c.context)
		})
	}
	for _, f := range goodFields() {
		add(func(a *partArguments) {
			a.request.Names, a.request.Values = f.names, f.values
			a.things = []impl.Thing{{Ref: a.request.Principal, Parents: countedRefs(3), Names: f.names, Values: f.values}}
			a.expr = getExpr(principalExpr(), "a")
		})
	}
	for i, d := range deskPolicies() {
		add(func(a *partArguments) { a.policies = numbered(append(deskPolicies()[i:], d)) })
	}
	for i, list := range append(goodThingLists(), badThingLists()...) {
		if len(list) < 2000 && i%3 == 0 {
			add(func(a *partArguments) { a.things, a.request = list, plainRequest() })
		}
	}
	for _, unknown := range append(goodUnknowns(), badUnknowns()...) {
		if len(unknown) < 2000 {
			add(func(a *partArguments) { a.unknown = unknown })
		}
	}
	return all
}

func TestArgumentsOfPartsStayAsTheyWere(t *testing.T) {
	for i, plain := range manyPartArguments() {
		a := plain.roomy()
		before := a.opened()
		first := a.ask()
		if !reflect.DeepEqual(a.opened(), before) {
			t.Errorf("arguments %d changed", i)
		}
		first.scribbleOver()
		if !reflect.DeepEqual(a.opened(), before) {
			t.Errorf("arguments %d changed with their answers", i)
		}
	}
}

func TestAnswersOfPartsShareNothing(t *testing.T) {
	lists := 0
	for i, plain := range manyPartArguments() {
		a := plain.roomy()
		first, second := a.ask(), a.ask()
		spans := slices.Concat(spansOf(reflect.ValueOf(first), "first"), spansOf(reflect.ValueOf(second), "second"))
		own := spansOf(reflect.ValueOf(a), "argument")
		lists += len(spans)
		if found := shared(spans); found != "" {
			t.Errorf("answers %d share memory: %s", i, found)
		}
		// Two arguments may share some, so each list of an answer is held against them by itself.
		for _, s := range spans {
			for _, o := range own {
				if s.from < o.to && o.from < s.to {
					t.Errorf("answers %d share memory: %s and %s", i, s.what, o.what)
				}
			}
		}
		kept := second.told()
		first.scribbleOver()
		a.scribbleOver()
		if second.told() != kept {
			t.Errorf("answers %d changed with their arguments, or with other answers", i)
		}
	}
	if lists < 20000 {
		t.Errorf("only %d lists", lists)
	}
}

func TestAnEmptyListOfPartsIsTheNilList(t *testing.T) {
	own := refAtom("A", "a")
	empty := []impl.Thing{{Ref: own, Parents: []impl.Atom{}, Names: []string{"s"}, Values: []impl.Value{{Kind: impl.ValueSet, Items: []impl.Atom{}, Names: []string{}}}}}
	none := []impl.Thing{{Ref: own, Names: []string{"s"}, Values: []impl.Value{{Kind: impl.ValueSet}}}}
	for _, list := range [][]impl.Thing{empty, none, roomyThings(empty)} {
		r := impl.Request{Principal: own, Action: own, Resource: own, Names: []string{}, Values: []impl.Value{}}
		if got := impl.SliceThings(list, r, []impl.Policy{}); !reflect.DeepEqual(got, none) {
			t.Errorf("SliceThings: got %s", shown(got))
		}
		for _, unknown := range [][]string{nil, {}, contextWords(1)[:0]} {
			if got := impl.ExprText(impl.FoldExpr(list, r, exprText("principal.s == []"), unknown)); got != "true" {
				t.Errorf("FoldExpr: got %s", got)
			}
			for _, when := range [][]impl.Expr{nil, {}, principalExpr()[:0]} {
				p := plainPolicy("p")
				p.When = when
				want := []impl.Policy{plainPolicy("p")}
				if got := impl.Residual(list, r, []impl.Policy{p}, unknown); !reflect.DeepEqual(got, want) {
					t.Errorf("Residual: got %s", shown(got))
				}
				if got := impl.SlicePolicies(list, r, []impl.Policy{p}); !reflect.DeepEqual(got, want) {
					t.Errorf("SlicePolicies: got %s", shown(got))
				}
				if got := impl.FoldExpr(list, r, when, unknown); got != nil {
					t.Errorf("no expression: got %s", shown(got))
				}
			}
			for _, policies := range [][]impl.Policy{nil, {}} {
				if impl.Residual(list, r, policies, unknown) != nil || impl.SlicePolicies(list, r, policies) != nil {
					t.Errorf("no policies: some are left")
				}
			}
		}
	}
}

func TestPartsAnswerTheSameAgain(t *testing.T) {
	for i, a := range manyPartArguments() {
		first := a.ask().told()
		for range 3 {
			if a.ask().told() != first {
				t.Errorf("answers %d are others when they are asked again", i)
			}
		}
	}
}
