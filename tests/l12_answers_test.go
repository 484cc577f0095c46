package tests

import (
	"reflect"
	"slices"
	"strings"
	"testing"

	"loop.example/g00036/impl"
)

// decideArguments are all that the functions of the chapter take.
type decideArguments struct {
	things   []impl.Thing
	request  impl.Request
	ref      impl.Atom
	head     impl.Head
	expr     []impl.Expr
	policies []impl.Policy
}

func plainDecideArguments() decideArguments {
	first, second := plainPolicy("a"), plainPolicy("b")
	first.When = exprText("principal has age && principal.age < 21")
	second.Principal, second.Action, second.Resource = refHead(impl.HeadIn, "Group", "top"), refHead(impl.HeadSame, "Action", "view"), isHead("Doc")
	second.When = exprText("principal.hat")
	return decideArguments{deskThings(), deskRequest(), refAtom("User", "ann"), refHead(impl.HeadIn, "Group", "top"), exprText("resource.readers"), []impl.Policy{first, second}}
}

// askWords holds all functions of the chapter against the words.
func (a decideArguments) askWords(t *testing.T) {
	t.Helper()
	askAncestors(t, a.things, a.ref)
	askHead(t, a.things, a.head, a.ref)
	askEval(t, a.things, a.request, a.expr)
	askDecide(t, a.things, a.request, a.policies)
}

// decideTextPlaces put a text in each place that has one.
func decideTextPlaces(text string) []func(a *decideArguments) {
	return []func(a *decideArguments){
		func(a *decideArguments) { a.things[0].Ref.Type = text },
		func(a *decideArguments) { a.things[8].Ref.Text = text },
		func(a *decideArguments) { a.things[7].Parents[0].Type = text },
		func(a *decideArguments) { a.things[4].Parents[0].Text = text },
		func(a *decideArguments) { a.things[7].Names[0] = text },
		func(a *decideArguments) { a.things[1].Values[10].Atom.Text = text },
		func(a *decideArguments) { a.things[1].Values[9].Items[1].Text = text },
		func(a *decideArguments) { a.things[1].Values[9].Names = []string{text} },
		func(a *decideArguments) { a.request.Principal.Type = text },
		func(a *decideArguments) { a.request.Action.Text = text },
		func(a *decideArguments) { a.request.Resource.Text = text },
		func(a *decideArguments) { a.request.Names[8] = text },
		func(a *decideArguments) { a.request.Values[8].Atom.Text = text },
		func(a *decideArguments) { a.ref.Type = text },
		func(a *decideArguments) { a.ref.Text = text },
		func(a *decideArguments) { a.head = isHead(text) },
		func(a *decideArguments) { a.head.Atom.Type = text },
		func(a *decideArguments) { a.head.Atom.Text = text },
		func(a *decideArguments) { a.head.Type = text },
		func(a *decideArguments) { a.expr[0].Text = text },
		func(a *decideArguments) { a.expr[1].Text = text },
		func(a *decideArguments) { a.expr = litExpr(textAtom(text)) },
		func(a *decideArguments) { a.expr = exprOf(impl.ExprLike, text, getExpr(varExpr("resource"), "title")) },
		func(a *decideArguments) { a.expr = exprOf(impl.ExprIs, text, principalExpr()) },
		func(a *decideArguments) { a.expr = exprOf(impl.ExprHas, text, varExpr("context")) },
		func(a *decideArguments) {
			a.expr = exprOf(impl.ExprIn, "", principalExpr(), litExpr(refAtom("Group", text)))
		},
		func(a *decideArguments) { a.policies[0].Id = text },
		func(a *decideArguments) { a.policies[1].Id = text },
		func(a *decideArguments) { a.policies[0].Principal = isHead(text) },
		func(a *decideArguments) { a.policies[0].Action = refHead(impl.HeadSame, "Action", text) },
		func(a *decideArguments) { a.policies[1].Resource = refHead(impl.HeadIn, text, "f") },
		func(a *decideArguments) { a.policies[0].When[1].Text = text },
		func(a *decideArguments) { a.policies[1].When[1].Text = text },
	}
}

func TestDecisionsAnswerAtAnyText(t *testing.T) {
	texts := append(oddKindTexts(), "Group", "g", "top", "ann", "bob", "view", "read", "hat", "boss", "readers", "title", "d", "f", "h", "c", "a\\*b", "*", strings.Repeat("*", impl.MaxText))
	for _, text := range texts {
		for _, place := range decideTextPlaces(text) {
			a := plainDecideArguments()
			place(&a)
			a.askWords(t)
		}
	}
}

// decideNumberPlaces put a number in each place that has one.
func decideNumberPlaces(num int) []func(a *decideArguments) {
	return []func(a *decideArguments){
		func(a *decideArguments) { a.things[0].Ref.Kind = num },
		func(a *decideArguments) { a.things[0].Ref.Num = num },
		func(a *decideArguments) { a.things[7].Parents[0].Kind = num },
		func(a *decideArguments) { a.things[7].Values[0].Kind = num },
		func(a *decideArguments) { a.things[7].Values[0].Atom.Kind = num },
		func(a *decideArguments) { a.things[7].Values[0].Atom.Num = num },
		func(a *decideArguments) { a.things[1].Values[9].Kind = num },
		func(a *decideArguments) { a.things[1].Values[9].Items[0].Kind = num },
		func(a *decideArguments) { a.request.Principal.Kind = num },
		func(a *decideArguments) { a.request.Action.Num = num },
		func(a *decideArguments) { a.request.Resource.Kind = num },
		func(a *decideArguments) { a.request.Values[2].Atom.Num = num },
		func(a *decideArguments) { a.request.Values[2].Kind = num },
		func(a *decideArguments) { a.ref.Kind = num },
		func(a *decideArguments) { a.ref.Num = num },
		func(a *decideArguments) { a.head.Kind = num },
		func(a *decideArguments) { a.head.Atom.Kind = num },
		func(a *decideArguments) { a.head = impl.Head{Kind: num} },
		func(a *decideArguments) { a.head = impl.Head{Kind: num, Type: "User"} },
		func(a *decideArguments) { a.expr[0].Kind = num },
		func(a *decideArguments) { a.expr[0].Kids = num },
		func(a *decideArguments) { a.expr = numExpr(num) },
		func(a *decideArguments) { a.expr = negExpr(numExpr(num)) },
		func(a *decideArguments) { a.expr = negExpr(litExpr(decAtom(num))) },
		func(a *decideArguments) { a.expr = litExpr(timeAtom(num)) },
		func(a *decideArguments) { a.expr = exprOf(num, "", principalExpr(), principalExpr()) },
		func(a *decideArguments) { a.expr = exprOf(num, "age", principalExpr()) },
		func(a *decideArguments) { a.policies[0].Principal.Kind = num },
		func(a *decideArguments) { a.policies[1].Principal.Kind = num },
		func(a *decideArguments) { a.policies[1].Action.Kind = num },
		func(a *decideArguments) { a.policies[1].Resource.Kind = num },
		func(a *decideArguments) { a.policies[0].When[0].Kind = num },
		func(a *decideArguments) { a.policies[0].When[0].Kids = num },
		func(a *decideArguments) { a.policies[1].When[0].Kind = num },
	}
}

func TestDecisionsAnswerAtAnyNumbers(t *testing.T) {
	numbers := append(oddInts(), 5, 6, 7, 8, 9, 10, 11, 12, 13, 14, 15, 16, 17, 18, 22)
	for _, num := range numbers {
		for _, place := range decideNumberPlaces(num) {
			a := plainDecideArguments()
			place(&a)
			a.askWords(t)
		}
	}
	list, r := deskThings(), deskRequest()
	for _, first := range numbers {
		for _, second := range numbers {
			for kind := range pairKinds() {
				askEval(t, list, r, exprOf(kind, "", numExpr(first), numExpr(second)))
				askEval(t, list, r, exprOf(kind, "", litExpr(decAtom(first)), litExpr(decAtom(second))))
			}
		}
	}
}

func TestDecisionsAnswerAtAnyValue(t *testing.T) {
	for _, v := range oddValues() {
		for _, change := range []func(a *decideArguments){
			func(a *decideArguments) { a.things[1].Values[9] = v },
			func(a *decideArguments) { a.things[7].Values[0] = v },
			func(a *decideArguments) { a.request.Values[0] = v; a.expr = getExpr(varExpr("context"), "due") },
			func(a *decideArguments) { a.things[7].Parents = v.Items },
			func(a *decideArguments) { a.things[1].Names = v.Names },
			func(a *decideArguments) { a.request.Names = v.Names },
			func(a *decideArguments) { a.request.Values = []impl.Value{v}; a.request.Names = []string{"due"} },
		} {
			a := plainDecideArguments()
			change(&a)
			a.askWords(t)
		}
	}
	for _, atom := range oddAtoms() {
		for _, change := range []func(a *decideArguments){
			func(a *decideArguments) { a.things[8].Ref = atom },
			func(a *decideArguments) { a.things[0].Ref = atom },
			func(a *decideArguments) { a.things[7].Parents[0] = atom },
			func(a *decideArguments) { a.things[7].Values[0].Atom = atom },
			func(a *decideArguments) { a.things[1].Values[9].Items[1] = atom },
			func(a *decideArguments) { a.request.Principal = atom },
			func(a *decideArguments) { a.request.Action = atom },
			func(a *decideArguments) { a.request.Resource = atom },
			func(a *decideArguments) { a.ref = atom },
			func(a *decideArguments) { a.ref, a.head.Atom = atom, atom },
			func(a *decideArguments) { a.head.Atom = atom },
			func(a *decideArguments) { a.head = impl.Head{Kind: impl.HeadSame, Atom: atom} },
			func(a *decideArguments) { a.expr = litExpr(atom) },
			func(a *decideArguments) { a.expr = setExpr(atom, numAtom(1), atom) },
			func(a *decideArguments) { a.expr = getExpr(litExpr(atom), "age") },
			func(a *decideArguments) { a.expr = exprOf(impl.ExprIn, "", principalExpr(), litExpr(atom)) },
			func(a *decideArguments) { a.policies[0].Principal = impl.Head{Kind: impl.HeadSame, Atom: atom} },
			func(a *decideArguments) { a.policies[0].Action = impl.Head{Kind: impl.HeadIn, Atom: atom} },
			func(a *decideArguments) { a.policies[0].When = litExpr(atom) },
		} {
			a := plainDecideArguments()
			change(&a)
			a.askWords(t)
		}
	}
}

func TestDecisionsAnswerAtAnyLists(t *testing.T) {
	for _, list := range append(goodThingLists(), badThingLists()...) {
		a := plainDecideArguments()
		a.things = list
		a.askWords(t)
	}
	for _, r := range append(goodRequests(), badRequests()...) {
		a := plainDecideArguments()
		a.request = r
		a.askWords(t)
	}
	for _, e := range badExprs() {
		a := plainDecideArguments()
		a.expr, a.policies[1].When = e, e
		a.askWords(t)
	}
	for _, g := range goodExprs() {
		a := plainDecideArguments()
		a.expr, a.policies[0].When = g.expr, g.expr
		a.askWords(t)
	}
	for _, p := range badPolicies() {
		a := plainDecideArguments()
		a.policies[1] = p
		a.askWords(t)
	}
	for _, h := range badHeads() {
		a := plainDecideArguments()
		a.head = h
		a.askWords(t)
	}
	for _, g := range goodPolicies() {
		a := plainDecideArguments()
		a.policies[1] = g.policy
		a.askWords(t)
	}
	var none decideArguments
	none.askWords(t)
}

func roomyPolicies(policies []impl.Policy) []impl.Policy {
	out := withRoom(policies, impl.Policy{Id: "behind"})
	for i, p := range out {
		out[i].When = withRoom(p.When, impl.Expr{Kind: impl.ExprVar, Text: "action"})
	}
	return out
}

func openedPolicies(policies []impl.Policy) []impl.Policy {
	out := opened(policies)
	for i, p := range out {
		out[i].When = opened(p.When)
	}
	return out
}

func (a decideArguments) roomy() decideArguments {
	a.things, a.request, a.policies = roomyThings(a.things), roomyRequest(a.request), roomyPolicies(a.policies)
	a.expr = withRoom(a.expr, impl.Expr{Kind: impl.ExprVar, Text: "action"})
	return a
}

func (a decideArguments) opened() decideArguments {
	a.things, a.request, a.policies = openedThings(a.things), openedRequest(a.request), openedPolicies(a.policies)
	a.expr = opened(a.expr)
	return a
}

func scribbleValues(values []impl.Value) {
	for _, v := range values {
		scribble(v.Items, textAtom("scribbled"))
		scribble(v.Names, "scribbled")
	}
	scribble(values, impl.Value{Kind: -7})
}

func (a decideArguments) scribbleOver() {
	for _, x := range a.things {
		scribble(x.Parents, textAtom("scribbled"))
		scribble(x.Names, "scribbled")
		scribbleValues(x.Values)
	}
	scribble(a.things, impl.Thing{})
	scribble(a.request.Names, "scribbled")
	scribbleValues(a.request.Values)
	scribble(a.expr, impl.Expr{Kind: -7})
	for _, p := range a.policies {
		scribble(p.When, impl.Expr{Kind: -7})
	}
	scribble(a.policies, impl.Policy{Id: "scribbled"})
}

// decideAnswers are all that the functions of the chapter answer.
type decideAnswers struct {
	above    []impl.Atom
	matches  bool
	value    impl.Value
	fault    int
	decision impl.Decision
}

func (a decideArguments) ask() decideAnswers {
	r := decideAnswers{above: impl.Ancestors(a.things, a.ref), matches: impl.HeadMatches(a.things, a.head, a.ref), decision: impl.Decide(a.things, a.request, a.policies)}
	r.value, r.fault = impl.EvalExpr(a.things, a.request, a.expr)
	return r
}

// copied is the same answers in memory of their own.
func (r decideAnswers) copied() decideAnswers {
	r.above, r.value.Items, r.value.Names = slices.Clone(r.above), slices.Clone(r.value.Items), slices.Clone(r.value.Names)
	r.decision.By, r.decision.Faulty = slices.Clone(r.decision.By), slices.Clone(r.decision.Faulty)
	return r
}

func (r decideAnswers) scribbleOver() {
	scribble(r.above, textAtom("of the answer"))
	scribble(r.value.Items, textAtom("of the answer"))
	scribble(r.value.Names, "of the answer")
	scribble(r.decision.By, "of the answer")
	scribble(r.decision.Faulty, "of the answer")
}

func manyDecideArguments() []decideArguments {
	var all []decideArguments
	for text := range deskOutcomes() {
		a := plainDecideArguments()
		a.expr, a.policies[0].When = exprText(text), exprText(text)
		all = append(all, a)
	}
	for _, f := range goodFields() {
		for _, name := range f.names[:min(len(f.names), 2)] {
			a := plainDecideArguments()
			a.request.Names, a.request.Values = f.names, f.values
			a.expr = getExpr(varExpr("context"), name)
			all = append(all, a)
			a.things = []impl.Thing{{Ref: a.ref, Parents: countedRefs(3), Names: f.names, Values: f.values}}
			a.expr = getExpr(principalExpr(), name)
			all = append(all, a)
			a.expr = ifExpr(exprText("true"), getExpr(principalExpr(), name), numExpr(1))
			all = append(all, a)
		}
	}
	for i, d := range deskPolicies() {
		a := plainDecideArguments()
		a.policies = numbered(append(deskPolicies()[i:], d))
		all = append(all, a)
	}
	for _, list := range append(goodThingLists(), badThingLists()...) {
		if len(list) < 2000 {
			a := plainDecideArguments()
			a.things, a.ref = list, refAtom("A", "a")
			all = append(all, a)
		}
	}
	for _, h := range badHeads() {
		a := plainDecideArguments()
		a.head, a.policies[0].Principal = h, h
		all = append(all, a)
	}
	return all
}

func TestArgumentsOfDecisionsStayAsTheyWere(t *testing.T) {
	for i, told := range manyDecideArguments() {
		a := told.roomy()
		before := a.opened()
		first := a.ask()
		if !reflect.DeepEqual(a.opened(), before) {
			t.Errorf("arguments %d changed", i)
		}
		first.scribbleOver()
		if !reflect.DeepEqual(a.opened(), before) {
			t.Errorf("arguments %d changed with their answers", i)
		}
	}
}

func TestAnswersOfDecisionsShareNothing(t *testing.T) {
	sets, faulty := 0, 0
	for i, told := range manyDecideArguments() {
		a := told.roomy()
		kept := a.ask().copied()
		first, second := a.ask(), a.ask()
		first.scribbleOver()
		a.scribbleOver()
		if !reflect.DeepEqual(second.copied(), kept) {
			t.Errorf("answers %d changed with their arguments, or with other answers", i)
		}
		// The lists of one answer, one behind the other, each with the room behind it.
		scribble(second.decision.By, "of the answer")
		if !slices.Equal(second.decision.Faulty, kept.decision.Faulty) {
			t.Errorf("answers %d: Faulty shares memory with By", i)
		}
		scribble(second.decision.Faulty, "again")
		if slices.Contains(second.decision.By, "again") {
			t.Errorf("answers %d: By shares memory with Faulty", i)
		}
		sets += len(kept.value.Items)
		faulty += len(kept.decision.Faulty)
	}
	if sets < 300 || faulty < 300 {
		t.Errorf("only %d Items, %d faulty", sets, faulty)
	}
}

func TestAnEmptyListOfDecisionsIsTheNilList(t *testing.T) {
	own := refAtom("A", "a")
	empty := []impl.Thing{{Ref: own, Parents: []impl.Atom{}, Names: []string{"s"}, Values: []impl.Value{{Kind: impl.ValueSet, Items: []impl.Atom{}, Names: []string{}}}}}
	none := []impl.Thing{{Ref: own, Names: []string{"s"}, Values: []impl.Value{{Kind: impl.ValueSet}}}}
	for _, list := range [][]impl.Thing{empty, none, roomyThings(empty)} {
		r := impl.Request{Principal: own, Action: own, Resource: own, Names: []string{}, Values: []impl.Value{}}
		if got := impl.Ancestors(list, own); !slices.Equal(got, []impl.Atom{own}) {
			t.Errorf("Ancestors: got %s", shown(got))
		}
		for text, want := range map[string]string{"principal.s": "[]", "principal.s == []": "true", "principal in principal.s": "false", "principal.s contains 1": "false", "[]": "[]", "context has s": "false"} {
			if got := evalText(list, r, exprText(text)); got != want {
				t.Errorf("%s: got %s", text, got)
			}
		}
		for _, when := range [][]impl.Expr{nil, {}, principalExpr()[:0]} {
			p := plainPolicy("p")
			p.When = when
			if got := impl.Decide(list, r, []impl.Policy{p}); !sameDecision(got, impl.Decision{Allow: true, By: []string{"p"}}) {
				t.Errorf("an empty When: got %s", shown(got))
			}
			if got := evalText(list, r, when); got != "!1" {
				t.Errorf("no expression: got %s", got)
			}
		}
		for _, policies := range [][]impl.Policy{nil, {}} {
			if got := impl.Decide(list, r, policies); !sameDecision(got, impl.Decision{}) {
				t.Errorf("no policies: got %s", shown(got))
			}
		}
	}
}

func TestDecisionsAnswerTheSameAgain(t *testing.T) {
	for i, a := range manyDecideArguments() {
		first := a.ask().copied()
		for range 3 {
			if again := a.ask().copied(); !reflect.DeepEqual(first, again) {
				t.Errorf("answers %d are others when they are asked again", i)
			}
		}
	}
}
