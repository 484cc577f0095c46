package tests

import (
	"math"
	"reflect"
	"slices"
	"strings"
	"testing"

	"loop.example/g00036/impl"
)

// askAll holds all functions of the chapter against the words, whatever they are given.
func askAll(t *testing.T, s impl.RelSchema, list []impl.Tuple, a impl.Ask, given impl.Value, facts []impl.Fact, what string) {
	t.Helper()
	if got, want := impl.GoodAsk(s, a), goodAskByWords(s, a); got != want {
		t.Errorf("%s: GoodAsk told %v", what, got)
	}
	if got, want := impl.Check(s, list, a, given), checkByWords(s, list, a, given); got != want {
		t.Errorf("%s: Check told %d, want %d", what, got, want)
	}
	if got, want := impl.FactsOf(s, list, a, given), factsByWords(s, list, a, given); !slices.Equal(got, want) {
		t.Errorf("%s: FactsOf told %s, want %s", what, factsText(got), factsText(want))
	}
	if got, want := impl.Supported(s, list, a, given, facts), supportedByWords(s, list, a, given, facts); got != want {
		t.Errorf("%s: Supported told %v", what, got)
	}
	if got, want := impl.SubjectsOf(s, list, a, given), subjectsByWords(s, list, a, given); !slices.Equal(got, want) {
		t.Errorf("%s: SubjectsOf told %s, want %s", what, factsText(got), factsText(want))
	}
	if got, want := impl.ObjectsOf(s, list, a, given), objectsOfByWords(s, list, a, given); !slices.Equal(got, want) {
		t.Errorf("%s: ObjectsOf told %s, want %s", what, factsText(got), factsText(want))
	}
	if got, want := impl.ExpandText(s, list, a.Type, a.Id, a.Name), expandByWords(s, list, a.Type, a.Id, a.Name); got != want {
		t.Errorf("%s: ExpandText told %.200s, want %.200s", what, got, want)
	}
}

func TestChecksAnswerAtAnyText(t *testing.T) {
	s, list := desks(), tuplesOf(deskTexts()...)
	base := askOf("doc:d1#view@group:g1#member")
	texts := append(oddTexts(), badTupleTexts()...)
	for _, text := range append(texts, "doc", "d1", "view", "member", "group", "user", "see", "*", "g1", longId("-"), strings.Repeat("a", 100000)) {
		for i, change := range []func(a *impl.Ask){
			func(a *impl.Ask) { a.Type = text },
			func(a *impl.Ask) { a.Id = text },
			func(a *impl.Ask) { a.Name = text },
			func(a *impl.Ask) { a.SubType = text },
			func(a *impl.Ask) { a.SubId = text },
			func(a *impl.Ask) { a.SubRel = text },
			func(a *impl.Ask) {
				*a = impl.Ask{Type: text, Id: text, Name: text, SubType: text, SubId: text, SubRel: text}
			},
		} {
			a := base
			change(&a)
			if got, want := impl.GoodAsk(s, a), goodAskByWords(s, a); got != want {
				t.Errorf("GoodAsk with %.100q: got %v", text, got)
			}
			if goodAskByWords(s, a) {
				askAll(t, s, list, a, recordValue(nil), nil, text)
			} else if !isNothing(s, list, a, recordValue(nil), nil) {
				t.Errorf("field %d, %.100q: want nothing", i, text)
			}
			if got, want := impl.ExpandText(s, list, a.Type, a.Id, a.Name), expandByWords(s, list, a.Type, a.Id, a.Name); got != want {
				t.Errorf("ExpandText with %.100q: got %.200s", text, got)
			}
		}
		for _, f := range []impl.Fact{{Type: text, Id: "d1", Name: "view", Value: impl.Yes}, {Type: "doc", Id: text, Name: "view", Value: impl.Yes}, {Type: "doc", Id: "d1", Name: text, Value: impl.Yes}, {Type: text, Id: text, Name: text, Value: impl.Maybe}} {
			if impl.Supported(s, list, base, recordValue(nil), []impl.Fact{f}) {
				t.Errorf("Supported with %.100q: want false", text)
			}
		}
	}
}

func TestChecksAnswerAtAnyValue(t *testing.T) {
	s, list, a := desks(), tuplesOf(deskTexts()...), askOf("doc:d1#view@user:ann")
	for i, v := range oddValues() {
		if !isRecord(v) {
			if !isNothing(s, list, a, v, nil) || !isNothing(s, nil, a, v, nil) {
				t.Errorf("value %d: want nothing", i)
			}
			continue
		}
		askAll(t, s, list, a, v, impl.FactsOf(s, list, a, v), "value "+impl.ValueText(v))
	}
}

func TestChecksAnswerAtAnyTuple(t *testing.T) {
	s, a := stores(), askOf("doc:d1#view@user:ann")
	for _, x := range oddTuples() {
		askAll(t, s, []impl.Tuple{x}, a, recordValue(nil), nil, "the list of "+tupleTextByWords(x))
		askAll(t, s, []impl.Tuple{x, tupleOf("group:h#member@user:ann")}, a, recordValue(nil), factsOf("group:h#member=yes"), "a list with "+tupleTextByWords(x))
	}
	for _, list := range append(badTupleLists(), nil, countedTuples(0, 150)) {
		askAll(t, s, list, a, recordValue(nil), nil, "a list")
	}
}

func TestChecksAnswerAtAnySchema(t *testing.T) {
	list := tuplesOf("a:a#r@a:a", "a:b#r@a:a")
	for _, s := range oddRels() {
		for _, ask := range []string{"a:a#r@a:a", "a:a#p@a:a#r", "doc:d#view@user:ann", "t10:x#p10@t11:x#r10"} {
			a := askOf(ask)
			askAll(t, s, nil, a, recordValue(nil), nil, "a schema, "+ask)
			askAll(t, s, list, a, recordValue(nil), factsOf("a:a#r=yes a:b#r=yes"), "a schema with tuples, "+ask)
		}
	}
}

func TestSupportedAnswersAtAnyFacts(t *testing.T) {
	s, list, a := desks(), tuplesOf(deskTexts()...), askOf("doc:d1#view@user:bob")
	least := impl.FactsOf(s, list, a, recordValue(nil))
	lists := append(badFactLists(), nil, least, append(slices.Clone(least), least...), make([]impl.Fact, 100000))
	for i := range least {
		for _, value := range append(oddInts(), math.MinInt, math.MaxInt, 0, 1, 2, 3) {
			changed := slices.Clone(least)
			changed[i].Value = value
			lists = append(lists, changed)
		}
		lists = append(lists, slices.Delete(slices.Clone(least), i, i+1), slices.Insert(slices.Clone(least), i, least[i]), slices.Insert(slices.Clone(least), i, impl.Fact{}))
	}
	for i, facts := range lists {
		if got, want := impl.Supported(s, list, a, recordValue(nil), facts), supportedByWords(s, list, a, recordValue(nil), facts); got != want {
			t.Errorf("facts %d, %.300s: got %v", i, factsText(facts), got)
		}
	}
}

// checkArguments are all that the functions of the chapter take, but for texts.
type checkArguments struct {
	schema impl.RelSchema
	list   []impl.Tuple
	ask    impl.Ask
	given  impl.Value
	facts  []impl.Fact
}

func (a checkArguments) roomy() checkArguments {
	rel := relArguments{schema: a.schema, given: a.given}.roomy()
	return checkArguments{rel.schema, roomyTuples(a.list), a.ask, rel.given, withRoom(a.facts, impl.Fact{Type: "behind"})}
}

func (a checkArguments) opened() checkArguments {
	rel := relArguments{schema: a.schema, given: a.given}.opened()
	return checkArguments{rel.schema, openedTuples(a.list), a.ask, rel.given, opened(a.facts)}
}

func (a checkArguments) scribbleOver() {
	relArguments{schema: a.schema, given: a.given}.scribbleOver()
	scribbleTuples(a.list)
	scribble(a.facts, impl.Fact{Type: "scribbled"})
}

// checkAnswers are all that the functions of the chapter answer.
type checkAnswers struct {
	facts [][]impl.Fact
	rest  []any
}

func (a checkArguments) answers() checkAnswers {
	return checkAnswers{
		facts: [][]impl.Fact{impl.FactsOf(a.schema, a.list, a.ask, a.given), impl.SubjectsOf(a.schema, a.list, a.ask, a.given), impl.ObjectsOf(a.schema, a.list, a.ask, a.given)},
		rest:  []any{impl.GoodAsk(a.schema, a.ask), impl.Check(a.schema, a.list, a.ask, a.given), impl.Supported(a.schema, a.list, a.ask, a.given, a.facts), impl.ExpandText(a.schema, a.list, a.ask.Type, a.ask.Id, a.ask.Name)},
	}
}

// copied is the same answers in memory of their own.
func (r checkAnswers) copied() checkAnswers {
	out := checkAnswers{rest: r.rest}
	for _, list := range r.facts {
		out.facts = append(out.facts, slices.Clone(list))
	}
	return out
}

func (r checkAnswers) scribbleOver() {
	for _, list := range r.facts {
		scribble(list, impl.Fact{Type: "scribbled"})
	}
}

func manyCheckArguments() []checkArguments {
	s, list, a, given, from := desks(), tuplesOf(deskTexts()...), askOf("doc:d1#view@user:bob"), givenOf("{now:@3,zone:\"a\"}"), drawn()
	facts := factsByWords(s, list, a, given)
	all := []checkArguments{
		{s, list, a, given, facts},
		{s, list, askOf("doc:d2#view@user:q"), given, nil},
		{s, nil, a, recordValue(nil), nil},
		{impl.RelSchema{}, nil, impl.Ask{}, impl.Value{}, nil},
		{s, chainedFolders(20), askOf("folder:f1000#see@folder:f1020"), given, factsOf("folder:f1019#parent=yes")},
		{relOf("type a", " relation r: b"), list, a, given, facts},
	}
	for _, bad := range badAsks()[:40] {
		all = append(all, checkArguments{s, list, bad, given, facts})
	}
	for _, v := range oddValues() {
		all = append(all, checkArguments{s, list, a, v, facts})
	}
	for _, bad := range badTupleLists()[4:] {
		all = append(all, checkArguments{stores(), bad, askOf("doc:d1#view@user:ann"), given, facts})
	}
	for range 40 {
		s := drawnGoodRel(from, false)
		one := checkArguments{s, drawnTuplesIn(from, s, 8), drawnAskIn(from, s), drawnGivenIn(from, s), nil}
		one.facts = factsByWords(one.schema, one.list, one.ask, one.given)
		all = append(all, one)
	}
	turned := all[0].roomy()
	slices.Reverse(turned.list)
	slices.Reverse(turned.facts)
	slices.Reverse(turned.schema.Types)
	slices.Reverse(turned.given.Names)
	return append(all, turned)
}

func TestArgumentsOfChecksStayAsTheyWere(t *testing.T) {
	for i, told := range manyCheckArguments() {
		a := told.roomy()
		before := a.opened()
		first := a.answers()
		if !reflect.DeepEqual(a.opened(), before) {
			t.Errorf("arguments %d changed", i)
		}
		first.scribbleOver()
		if !reflect.DeepEqual(a.opened(), before) {
			t.Errorf("arguments %d changed with their answers", i)
		}
	}
}

func TestAnswersOfChecksShareNothing(t *testing.T) {
	for i, told := range manyCheckArguments() {
		a := told.roomy()
		kept := a.answers().copied()
		first, second := a.answers(), a.answers()
		first.scribbleOver()
		a.scribbleOver()
		if !reflect.DeepEqual(second.copied(), kept) {
			t.Errorf("answers %d changed with their arguments, or with other answers", i)
		}
	}
}

func TestAnEmptyListOfChecksIsTheNilList(t *testing.T) {
	s, a := desks(), askOf("doc:d1#view@user:ann")
	empty := impl.Value{Kind: impl.ValueRecord, Items: []impl.Atom{}, Names: make([]string, 0, 5)}
	for _, list := range [][]impl.Tuple{nil, {}, make([]impl.Tuple, 0, 5)} {
		for _, facts := range [][]impl.Fact{nil, {}, make([]impl.Fact, 0, 5)} {
			for _, given := range []impl.Value{recordValue(nil), empty} {
				if impl.Check(s, list, a, given) != impl.No || !impl.Supported(s, list, a, given, facts) || len(impl.FactsOf(s, list, a, given))+len(impl.SubjectsOf(s, list, a, given))+len(impl.ObjectsOf(s, list, a, given)) != 0 {
					t.Errorf("empty lists: want no, and nothing told")
				}
			}
		}
	}
	bound := tuplesOf("doc:d1#owner@user:ann[fresh:{}]")
	bound[0].Given = empty
	if got := impl.Check(s, bound, a, empty); got != impl.Maybe {
		t.Errorf("empty records: got %d", got)
	}
}
