package tests

import (
	"reflect"
	"runtime"
	"slices"
	"strings"
	"sync"
	"testing"
	"time"

	"loop.example/g00036/impl"
)

// analyseArguments are all that the functions of the chapter take.
type analyseArguments struct {
	schema impl.PolSchema
	a      []impl.Policy
	b      []impl.Policy
	number int
}

// both is what CasesOf and CaseOf are asked with.
func (a analyseArguments) both() []impl.Policy {
	return slices.Concat(a.a, a.b)
}

func plainAnalyseArguments() analyseArguments {
	a := linesOf(`forbid (principal == User::"ann", action, resource) when principal.age < 18`, `principal in Team::"t" && resource.open`)
	b := linesOf(`permit (principal, action == Action::"view", resource) when resource.tags contains "x"`)
	s := impl.PolSchema{
		Things:  []impl.ThingType{thingType("Doc", "Team", "open bool!, tags set text!"), thingType("Team", "", ""), thingType("User", "Team", "age num!, boss ref User")},
		Actions: []impl.ActionType{actionTypeOf("view", "User", "Doc", "at time!")},
	}
	return analyseArguments{s, a, b, 5}
}

// askWords holds all functions of the chapter against the words.
func (a analyseArguments) askWords(t *testing.T) {
	t.Helper()
	for _, p := range a.both() {
		askFragment(t, p)
	}
	cases, many := casesByWords(a.schema, a.both())
	if got := impl.CasesOf(a.schema, a.both()); got != many {
		t.Errorf("CasesOf(%.500s, %.500s): got %d, want %d", shown(a.schema), shown(a.both()), got, many)
	}
	var want wordCase
	if a.number >= 0 && a.number < len(cases) {
		want = cases[a.number]
	}
	askCase(t, a.schema, a.both(), a.number, want)
	askVerdicts(t, a.schema, a.a, a.b)
}

func TestAnalysesAnswerAtAnyText(t *testing.T) {
	texts := append(oddKindTexts(), "Team", "t", "ann", "other", "other_", "Doc", "view", "open", "tags", "x", "resource", "~", strings.Repeat("~", impl.MaxText), strings.Repeat("~", impl.MaxText+1), strings.Repeat("_", impl.MaxText))
	for _, text := range texts {
		for _, place := range []func(a *analyseArguments){
			func(a *analyseArguments) { a.schema.Things[0].Name = text },
			func(a *analyseArguments) { a.schema.Things[2].Name = text },
			func(a *analyseArguments) { a.schema.Things[2].Ups[0] = text },
			func(a *analyseArguments) { a.schema.Things[2].Attrs[0].Name = text },
			func(a *analyseArguments) { a.schema.Things[2].Attrs[0].Kind = text },
			func(a *analyseArguments) { a.schema.Actions[0].Id = text },
			func(a *analyseArguments) { a.schema.Actions[0].Principals[0] = text },
			func(a *analyseArguments) { a.schema.Actions[0].Resources[0] = text },
			func(a *analyseArguments) { a.schema.Actions[0].Context[0].Name = text },
			func(a *analyseArguments) { a.schema.Actions[0].Context[0].Kind = text },
			func(a *analyseArguments) { a.a[0].Id = text },
			func(a *analyseArguments) { a.b[0].Id = text },
			func(a *analyseArguments) { a.a[0].Principal.Atom.Text = text },
			func(a *analyseArguments) { a.a[0].Principal.Atom.Type = text },
			func(a *analyseArguments) { a.a[0].Resource = isHead(text) },
			func(a *analyseArguments) { a.b[0].Action.Atom.Text = text },
			func(a *analyseArguments) { a.a[0].When[1].Text = text },
			func(a *analyseArguments) { a.a[0].When[2].Text = text },
			func(a *analyseArguments) {
				a.a[0].When = exprOf(impl.ExprLess, "", getExpr(varExpr("principal"), "age"), litExpr(textAtom(text)))
			},
			func(a *analyseArguments) {
				a.a[0].When = exprOf(impl.ExprContains, "", getExpr(varExpr("resource"), "tags"), litExpr(textAtom(text)))
			},
			func(a *analyseArguments) { a.a[1].When[3].Atom.Text = text },
			func(a *analyseArguments) { a.a[1].When[3].Atom.Type = text },
			func(a *analyseArguments) { a.b[0].When = exprOf(impl.ExprIs, text, principalExpr()) },
		} {
			a := plainAnalyseArguments()
			place(&a)
			a.askWords(t)
		}
	}
}

func TestAnalysesAnswerAtAnyNumbers(t *testing.T) {
	for _, num := range append(oddInts(), 5, 6, 7, 8, 9, 10, 11, 12, 13, 14, 15, 16, 17, 18, 22, 47, 48, 4999, 5000) {
		for _, place := range []func(a *analyseArguments){
			func(a *analyseArguments) { a.number = num },
			func(a *analyseArguments) { a.a[0].Principal.Kind = num },
			func(a *analyseArguments) { a.a[0].Principal.Atom.Kind = num },
			func(a *analyseArguments) { a.a[0].Principal.Atom.Num = num },
			func(a *analyseArguments) { a.a[0].Resource.Kind = num },
			func(a *analyseArguments) { a.b[0].Action.Kind = num },
			func(a *analyseArguments) { a.a[0].When[0].Kind = num },
			func(a *analyseArguments) { a.a[0].When[0].Kids = num },
			func(a *analyseArguments) { a.a[0].When[1].Kind = num },
			func(a *analyseArguments) { a.a[0].When[2].Kind = num },
			func(a *analyseArguments) { a.a[0].When[3].Kind = num },
			func(a *analyseArguments) { a.a[0].When[3].Atom.Kind = num },
			func(a *analyseArguments) { a.a[0].When[3].Atom.Num = num },
			func(a *analyseArguments) { a.a[1].When[0].Kind = num },
			func(a *analyseArguments) { a.a[1].When[1].Kind = num },
			func(a *analyseArguments) { a.b[0].When[0].Kind = num },
		} {
			a := plainAnalyseArguments()
			place(&a)
			a.askWords(t)
		}
	}
}

func TestAnalysesAnswerAtAnyLists(t *testing.T) {
	ask := func(change func(a *analyseArguments)) {
		a := plainAnalyseArguments()
		change(&a)
		a.askWords(t)
	}
	for _, s := range append(goodPolSchemas(), badPolSchemas()...) {
		ask(func(a *analyseArguments) { a.schema = s })
	}
	for _, e := range badExprs() {
		ask(func(a *analyseArguments) { a.a[0].When = e })
	}
	for _, g := range goodExprs() {
		ask(func(a *analyseArguments) { a.a[0].When = g.expr })
	}
	for _, p := range badPolicies() {
		ask(func(a *analyseArguments) { a.a[1] = p })
		ask(func(a *analyseArguments) { a.b = append(a.b, p) })
	}
	for i, g := range goodPolicies() {
		if i%7 == 0 {
			ask(func(a *analyseArguments) { a.b = []impl.Policy{g.policy} })
		}
	}
	for _, atom := range oddAtoms() {
		ask(func(a *analyseArguments) { a.a[0].Principal.Atom = atom })
		ask(func(a *analyseArguments) { a.a[0].Resource = impl.Head{Kind: impl.HeadIn, Atom: atom} })
		ask(func(a *analyseArguments) { a.a[0].When[3].Atom = atom })
		ask(func(a *analyseArguments) { a.a[1].When[3].Atom = atom })
		ask(func(a *analyseArguments) { a.b[0].When[3].Atom = atom })
		ask(func(a *analyseArguments) { a.b[0].When = litExpr(atom) })
	}
	for _, many := range []int{0, 1, 39, 40, 41, 80, 81, 3000} {
		policies, _ := countedPolicies(many)
		ask(func(a *analyseArguments) { a.a = policies })
		ask(func(a *analyseArguments) { a.b = policies })
		ask(func(a *analyseArguments) { a.a, a.b = policies, policies })
	}
	ask(func(a *analyseArguments) { a.a, a.b = make([]impl.Policy, 100000), nil })
	var none analyseArguments
	none.askWords(t)
}

func (a analyseArguments) roomy() analyseArguments {
	return analyseArguments{roomyPolSchema(a.schema), roomyPolicies(a.a), roomyPolicies(a.b), a.number}
}

func (a analyseArguments) opened() analyseArguments {
	return analyseArguments{openedPolSchema(a.schema), openedPolicies(a.a), openedPolicies(a.b), a.number}
}

func (a analyseArguments) scribbleOver() {
	scribblePolSchema(a.schema)
	decideArguments{policies: a.a}.scribbleOver()
	decideArguments{policies: a.b}.scribbleOver()
}

// analyseAnswers are all that the functions of the chapter answer.
type analyseAnswers struct {
	in       []bool
	many     int
	things   []impl.Thing
	request  impl.Request
	verdicts toldVerdicts
}

func (a analyseArguments) ask() analyseAnswers {
	var r analyseAnswers
	for _, p := range a.both() {
		r.in = append(r.in, impl.InFragment(p))
	}
	r.many = impl.CasesOf(a.schema, a.a)
	r.things, r.request = impl.CaseOf(a.schema, a.a, a.number)
	r.verdicts = verdictsOf(a.schema, a.a, a.b)
	return r
}

// told is all of the answers as a text, in memory of its own.
func (r analyseAnswers) told() string {
	return shown(r)
}

func (r analyseAnswers) scribbleOver() {
	decideArguments{things: r.things, request: r.request}.scribbleOver()
	for _, v := range []impl.Verdict{r.verdicts.equivalent, r.verdicts.never, r.verdicts.noMore} {
		decideArguments{things: v.Things, request: v.Request}.scribbleOver()
	}
}

func manyAnalyseArguments() []analyseArguments {
	var all []analyseArguments
	for i, row := range verdictRows() {
		all = append(all, analyseArguments{garden(), splitLines(row.a), splitLines(row.b), i % 7})
	}
	for _, row := range slices.Concat(numberRows(), textRows(), otherRows(), setRows()) {
		for i, part := range []string{"principal", "resource", "context"} {
			when := strings.ReplaceAll(row.whens[0], "W", part)
			all = append(all, analyseArguments{lawn(part, "f "+row.kind), whensOf(when), nil, i + 1})
		}
	}
	for _, row := range partRows() {
		lines := policiesOf(`permit "p" (principal` + row.heads + ", action, resource);\n")
		all = append(all, analyseArguments{garden(), lines, nil, 3})
	}
	for _, s := range goodPolSchemas() {
		all = append(all, analyseArguments{s, whensOf("context.x contains 5", "true"), whensOf("false"), 1})
	}
	for i, s := range badPolSchemas() {
		if i%5 == 0 && len(s.Things) < 1000 && len(s.Actions) < 1000 {
			all = append(all, analyseArguments{s, whensOf("true"), nil, 0})
		}
	}
	for i, p := range badPolicies() {
		if i%3 == 0 {
			all = append(all, analyseArguments{garden(), []impl.Policy{p}, nil, 0})
		}
	}
	d := yardDrawer{drawn()}
	for range 150 {
		s, a, b := d.yard(300)
		all = append(all, analyseArguments{s, a, b, d.from.Intn(30)})
	}
	return all
}

func TestArgumentsOfAnalysesStayAsTheyWere(t *testing.T) {
	for i, plain := range manyAnalyseArguments() {
		a := plain.roomy()
		before := a.opened()
		first := a.ask()
		if !reflect.DeepEqual(a.opened(), before) {
			t.Errorf("arguments %d changed", i)
		}
		first.scribbleOver()
		if !reflect.DeepEqual(a.opened(), before) {
			t.Errorf("arguments %d changed with their answers", i)
		}
	}
}

func TestAnswersOfAnalysesShareNothing(t *testing.T) {
	lists := 0
	for i, plain := range manyAnalyseArguments() {
		a := plain.roomy()
		first, second := a.ask(), a.ask()
		spans := slices.Concat(spansOf(reflect.ValueOf(first), "first"), spansOf(reflect.ValueOf(second), "second"))
		own := spansOf(reflect.ValueOf(a), "argument")
		lists += len(spans)
		if found := shared(spans); found != "" {
			t.Errorf("answers %d share memory: %s", i, found)
		}
		for _, s := range spans {
			for _, o := range own {
				if s.from < o.to && o.from < s.to {
					t.Errorf("answers %d share memory: %s and %s", i, s.what, o.what)
				}
			}
		}
		kept := second.told()
		first.scribbleOver()
		a.scribbleOver()
		if second.told() != kept {
			t.Errorf("answers %d changed with their arguments, or with other answers", i)
		}
	}
	if lists < 10000 {
		t.Errorf("only %d lists", lists)
	}
}

// A case has no list with room but no items, and is the same whether empty lists were told or none.
func TestAnEmptyListOfAnalysesIsTheNilList(t *testing.T) {
	none := lawn("principal", "f set num!")
	empty := lawn("principal", "f set num!")
	for i := range empty.Things {
		empty.Things[i].Ups = append([]string{}, empty.Things[i].Ups...)
		empty.Things[i].Attrs = append([]impl.AttrKind{}, empty.Things[i].Attrs...)
	}
	empty.Actions[0].Context = []impl.AttrKind{}
	doc, user := refAtom("Doc", "other"), refAtom("User", "other")
	list := []impl.Thing{{Ref: doc}, {Ref: user, Names: []string{"f"}, Values: []impl.Value{{Kind: impl.ValueSet}}}}
	r := impl.Request{Principal: user, Action: refAtom("Action", "view"), Resource: doc}
	for _, s := range []impl.PolSchema{none, empty, roomyPolSchema(empty)} {
		for _, policies := range [][]impl.Policy{nil, {}, whensOf("true")[:0]} {
			if got := impl.CasesOf(s, policies); got != 1 {
				t.Errorf("CasesOf: got %d", got)
			}
			things, request := impl.CaseOf(s, policies, 0)
			if !reflect.DeepEqual(things, list) || !reflect.DeepEqual(request, r) {
				t.Errorf("CaseOf: got %#v, %#v", things, request)
			}
			if got := impl.NeverAllows(s, policies); !reflect.DeepEqual(got, impl.Verdict{Kind: impl.VerdictYes}) {
				t.Errorf("NeverAllows: got %s", shown(got))
			}
			for _, when := range [][]impl.Expr{nil, {}, principalExpr()[:0]} {
				p := plainPolicy("p")
				p.When = when
				if !impl.InFragment(p) {
					t.Errorf("no When is not in the fragment")
				}
				want := impl.Verdict{Kind: impl.VerdictNo, Things: list, Request: r}
				if got := impl.Equivalent(s, policies, []impl.Policy{p}); !reflect.DeepEqual(got, want) {
					t.Errorf("Equivalent: got %#v", got)
				}
			}
		}
	}
}

func TestAnalysesAnswerTheSameAgain(t *testing.T) {
	for i, a := range manyAnalyseArguments() {
		first := a.ask().told()
		for range 2 {
			if a.ask().told() != first {
				t.Errorf("answers %d are others when they are asked again", i)
			}
		}
	}
}

// Many ask at once, with the same arguments.
func TestAnalysesAtOnce(t *testing.T) {
	all := manyAnalyseArguments()
	var want []string
	for _, a := range all {
		want = append(want, a.ask().told())
	}
	var asking sync.WaitGroup
	for worker := range 8 {
		asking.Add(1)
		go func() {
			defer asking.Done()
			for i := worker % 3; i < len(all); i += 3 {
				if got := all[i].ask().told(); got != want[i] {
					t.Errorf("answers %d are others when many ask", i)
				}
			}
		}()
	}
	asking.Wait()
}

// Whatever was begun for a call has ended with it.
func TestAnalysesLeaveNothingRunning(t *testing.T) {
	before := runtime.NumGoroutine()
	for _, a := range manyAnalyseArguments() {
		a.ask()
	}
	for range 100 {
		if runtime.NumGoroutine() <= before {
			return
		}
		time.Sleep(10 * time.Millisecond)
	}
	t.Errorf("%d run behind the calls, %d ahead of them", runtime.NumGoroutine(), before)
}
