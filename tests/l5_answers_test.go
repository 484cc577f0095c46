package tests

import (
	"reflect"
	"slices"
	"strings"
	"testing"

	"loop.example/g00036/impl"
)

func oddNestLists() [][]impl.Nest {
	return append(badNestLists(), goodNestLists()...)
}

func oddRuleLists() [][]impl.GroupRule {
	return append(badRuleLists(), goodRuleLists()...)
}

// oddMemberNames are names and texts that are none.
func oddMemberNames() []string {
	return append(append(badGroupNames(), badMemberNames()...), "A", "B", "Z", "a", "ann", "bob", "_", countedGroup(0), countedGroup(199), strings.Repeat("A", impl.MaxName), strings.Repeat("(", 100000))
}

func TestGroupsAnswerAtAnyText(t *testing.T) {
	for _, text := range append(oddDirTexts(), oddMemberNames()...) {
		group, other := groupName.MatchString(text), otherName.MatchString(text)
		if impl.GoodNests([]impl.Nest{nest(text, "a")}) != group || impl.GoodNests([]impl.Nest{nest("A", text)}) != (group || other) {
			t.Errorf("a nest of %.80q", text)
		}
		added, more := impl.AddNest(nil, nil, nest(text, text))
		dropped, less := impl.DropNest(nil, nil, nest(text, text))
		if (len(added) == 1) != group || len(added) != len(more) || len(dropped)+len(less) != 0 {
			t.Errorf("a nest of %.80q: got %v, %v", text, added, more)
		}
		for _, list := range [][]impl.Nest{nil, nestsOf("A>A A>B A>ann B>A"), roundNests(impl.MaxNests), {nest(text, text)}} {
			members, groups, way := impl.MembersOf(list, text), impl.GroupsOf(list, text), impl.WayOf(list, text, text)
			if !group && len(members)+len(way) != 0 || !group && !other && len(groups) != 0 {
				t.Errorf("%.80q is no name: got %v, %v, %v", text, members, groups, way)
			}
		}
		rules := impl.RuleNests(dirSchema(), crew(), []impl.GroupRule{{Group: text, Filter: filterOf(andNode(0))}})
		if (len(rules) == 4) != group || !group && len(rules) != 0 {
			t.Errorf("a rule for %.80q: got %v", text, rules)
		}
		impl.RuleNests(dirSchema(), crew(), []impl.GroupRule{{Group: "A", Filter: filterOf(leafNode(impl.FilterLike, text, text))}})
		impl.RuleNests(dirSchema(), []impl.Entry{{Name: nameOf("cn", "a"), Attrs: []impl.Attr{{Name: "cn", Values: []string{text}}}}}, rulesOf("A (&)"))
	}
}

func TestGroupsAnswerAtAnyLists(t *testing.T) {
	names, indexes := oddMemberNames(), oddIndexes()
	for _, list := range oddNestLists() {
		good := impl.GoodNests(list)
		if got := impl.ReachOf(list); (len(got) > 0) != (good && len(list) > 0) {
			t.Errorf("ReachOf of %d nests: got %d", len(list), len(got))
		}
		if got := impl.Loops(list); !good && len(got) != 0 {
			t.Errorf("Loops of no good list: got %q", got)
		}
		for _, name := range names {
			if members, groups, way := impl.MembersOf(list, name), impl.GroupsOf(list, name), impl.WayOf(list, name, name); !good && len(members)+len(groups)+len(way) != 0 {
				t.Errorf("no good list: got %q, %q, %q", members, groups, way)
			}
		}
		for _, index := range indexes {
			more, reach := impl.AddNest(list, index, nest("A", "a"))
			less, rest := impl.DropNest(list, index, nest("A", "a"))
			if !good && len(more)+len(reach)+len(less)+len(rest) != 0 {
				t.Errorf("steps of no good list: got %q, %q", nestsText(more), nestsText(less))
			}
			if !impl.GoodNests(more) || !impl.GoodNests(less) {
				t.Errorf("steps of %d nests: got no good lists", len(list))
			}
		}
	}
}

func TestRuleNestsAnswerAtAnyLists(t *testing.T) {
	entries := [][]impl.Entry{nil, crew(), oddEntries(), make([]impl.Entry, 3000), goodEntries()}
	for i, rules := range oddRuleLists() {
		for _, s := range []impl.DirSchema{{}, dirSchema(), goodSchemas()[1], badSchemas()[5]} {
			for _, list := range entries {
				if got := impl.RuleNests(s, list, rules); !impl.GoodNests(got) {
					t.Errorf("rules %d: got no good list, %q", i, nestsText(got))
				}
			}
		}
	}
	for _, s := range oddSchemas() {
		for _, e := range oddEntries() {
			good := impl.GoodDirSchema(s) && impl.GoodEntry(e)
			if got := impl.RuleNests(s, append(crew(), e), rulesOf("A (&)")); (len(got) > 0) != good {
				t.Errorf("RuleNests: got %q, good: %v", nestsText(got), good)
			}
		}
	}
}

// groupArguments are all that the functions of the chapter take, but for texts.
type groupArguments struct {
	list    []impl.Nest
	index   []impl.Reach
	schema  impl.DirSchema
	entries []impl.Entry
	rules   []impl.GroupRule
}

func (a groupArguments) roomy() groupArguments {
	rules := withRoom(a.rules, impl.GroupRule{Group: "Behind"})
	for i, r := range rules {
		rules[i].Filter = withRoom(r.Filter, hasNode("behind"))
	}
	return groupArguments{withRoom(a.list, nest("Behind", "behind")), withRoom(a.index, impl.Reach{Group: "Behind"}), roomySchema(a.schema), roomyEntries(a.entries), rules}
}

func (a groupArguments) opened() groupArguments {
	rules := opened(a.rules)
	for i, r := range rules {
		rules[i].Filter = opened(r.Filter)
	}
	return groupArguments{opened(a.list), opened(a.index), openedSchema(a.schema), openedEntries(a.entries), rules}
}

func (a groupArguments) scribbleOver() {
	for _, r := range a.rules {
		scribble(r.Filter, impl.FilterNode{Kind: -7})
	}
	scribble(a.rules, impl.GroupRule{})
	scribble(a.list, nest("Scribbled", "scribbled"))
	scribble(a.index, impl.Reach{Group: "Scribbled", Steps: -7})
	dirArguments{schema: a.schema, entries: a.entries}.scribbleOver()
}

// groupAnswers are all lists that the functions of the chapter answer.
type groupAnswers struct {
	nests   [][]impl.Nest
	indexes [][]impl.Reach
	names   [][]string
}

func (a groupArguments) ask() groupAnswers {
	impl.GoodNests(a.list)
	r := groupAnswers{
		nests:   [][]impl.Nest{impl.RuleNests(a.schema, a.entries, a.rules)},
		indexes: [][]impl.Reach{impl.ReachOf(a.list)},
		names:   [][]string{impl.Loops(a.list)},
	}
	for _, n := range append(nestsOf("A>A B>ann Ops>Dev All>z"), nest("a", "b")) {
		more, reach := impl.AddNest(a.list, a.index, n)
		less, rest := impl.DropNest(a.list, a.index, n)
		r.nests = append(r.nests, more, less)
		r.indexes = append(r.indexes, reach, rest)
		r.names = append(r.names, impl.MembersOf(a.list, n.Group), impl.GroupsOf(a.list, n.Member), impl.WayOf(a.list, n.Group, n.Member))
	}
	return r
}

// copied is the same answers in memory of their own.
func (r groupAnswers) copied() groupAnswers {
	var out groupAnswers
	for _, list := range r.nests {
		out.nests = append(out.nests, slices.Clone(list))
	}
	for _, list := range r.indexes {
		out.indexes = append(out.indexes, slices.Clone(list))
	}
	for _, list := range r.names {
		out.names = append(out.names, slices.Clone(list))
	}
	return out
}

func (r groupAnswers) scribbleOver() {
	for _, list := range r.nests {
		scribble(list, nest("Scribbled", "scribbled"))
	}
	for _, list := range r.indexes {
		scribble(list, impl.Reach{Group: "Scribbled", Steps: -9})
	}
	for _, list := range r.names {
		scribble(list, "scribbled")
	}
}

func manyGroupArguments() []groupArguments {
	list := nestsOf("A>A A>B A>ann All>Dev All>Ops All>m B>A B>ann Dev>Ops Dev>z Ops>Dev Ops>bob")
	good := groupArguments{list, impl.ReachOf(list), dirSchema(), crew(), rulesOf("A (&)", "B (|(cn=~a*)(&(age>=7)(!(hat=*))))", "Z (age<=9)")}
	all := []groupArguments{good}
	add := func(change func(a *groupArguments)) {
		a := good
		change(&a)
		all = append(all, a)
	}
	for _, list := range oddNestLists() {
		add(func(a *groupArguments) { a.list, a.index = list, impl.ReachOf(list) })
	}
	for _, index := range wrongIndexes(good.index) {
		add(func(a *groupArguments) { a.index = index })
	}
	for _, s := range oddSchemas() {
		add(func(a *groupArguments) { a.schema = s })
	}
	for _, e := range oddEntries() {
		add(func(a *groupArguments) { a.entries = append(crew(), e) })
	}
	for _, rules := range oddRuleLists() {
		add(func(a *groupArguments) { a.rules = rules })
	}
	turned := good.roomy()
	slices.Reverse(turned.list)
	slices.Reverse(turned.index)
	slices.Reverse(turned.entries)
	slices.Reverse(turned.rules)
	return append(all, turned)
}

func TestArgumentsOfGroupsStayAsTheyWere(t *testing.T) {
	for i, told := range manyGroupArguments() {
		a := told.roomy()
		before := a.opened()
		first := a.ask()
		if !reflect.DeepEqual(a.opened(), before) {
			t.Errorf("arguments %d changed", i)
		}
		first.scribbleOver()
		if !reflect.DeepEqual(a.opened(), before) {
			t.Errorf("arguments %d changed with their answers", i)
		}
	}
}

func TestAnswersOfGroupsShareNothing(t *testing.T) {
	for i, told := range manyGroupArguments() {
		a := told.roomy()
		kept := a.ask().copied()
		first, second := a.ask(), a.ask()
		first.scribbleOver()
		a.scribbleOver()
		if !reflect.DeepEqual(second.copied(), kept) {
			t.Errorf("answers %d changed with their arguments, or with other answers", i)
		}
	}
}

// A list that stays as it is comes back in memory of its own as well.
func TestAListThatStaysIsHandedOutAnew(t *testing.T) {
	list := nestsOf("A>B B>ann")
	index := impl.ReachOf(list)
	for _, step := range []func([]impl.Nest, []impl.Reach, impl.Nest) ([]impl.Nest, []impl.Reach){impl.AddNest, impl.DropNest} {
		n := list[0]
		if next, _ := step(list, index, n); len(next) != len(list) {
			n = nest("C", "c")
		}
		next, kept := step(list, index, n)
		scribble(next, nest("Scribbled", "scribbled"))
		scribble(kept, impl.Reach{})
		if nestsText(list) != "A>B B>ann" || reachText(index) != "A>B:1 A>ann:2 B>ann:1" {
			t.Errorf("the arguments changed with the answers: %q, %q", nestsText(list), reachText(index))
		}
	}
}

func TestAnEmptyListOfGroupsIsTheNilList(t *testing.T) {
	empty := groupArguments{[]impl.Nest{}, []impl.Reach{}, dirSchema(), []impl.Entry{}, []impl.GroupRule{}}
	none := groupArguments{nil, nil, dirSchema(), nil, nil}
	full, bare := empty.ask(), none.ask()
	for i := range full.nests {
		if !slices.Equal(full.nests[i], bare.nests[i]) {
			t.Errorf("nests %d: %q and %q", i, nestsText(full.nests[i]), nestsText(bare.nests[i]))
		}
	}
	for i := range full.indexes {
		if !slices.Equal(full.indexes[i], bare.indexes[i]) {
			t.Errorf("indexes %d: %q and %q", i, reachText(full.indexes[i]), reachText(bare.indexes[i]))
		}
	}
	for i := range full.names {
		if !slices.Equal(full.names[i], bare.names[i]) {
			t.Errorf("names %d: %q and %q", i, full.names[i], bare.names[i])
		}
	}
	if next, kept := impl.AddNest([]impl.Nest{}, []impl.Reach{}, nest("A", "a")); len(next) != 1 || len(kept) != 1 {
		t.Errorf("AddNest to the empty list: got %q, %q", nestsText(next), reachText(kept))
	}
}
