package tests

import (
	"math"
	"reflect"
	"slices"
	"strings"
	"testing"

	"loop.example/g00036/impl"
)

func oddSchemas() []impl.DirSchema {
	return append(badSchemas(), goodSchemas()...)
}

func oddEntries() []impl.Entry {
	return append(badEntries(), goodEntries()...)
}

func oddFilters() [][]impl.FilterNode {
	all := badFilters()
	for _, told := range goodFilters() {
		all = append(all, told.nodes)
	}
	return append(all, longFilter(impl.MaxFilter+1))
}

func oddNames() [][]impl.Part {
	all := badNames()
	for _, told := range goodNames() {
		all = append(all, told.name)
	}
	return all
}

// oddDirTexts are texts of every sort, well formed or not.
func oddDirTexts() []string {
	texts := append(oddTexts(), badNameTexts()...)
	for text := range badFilterTexts() {
		texts = append(texts, text)
	}
	for _, told := range goodFilters() {
		texts = append(texts, told.text)
	}
	for _, s := range []string{"(", "(!", "(&", "(a=", "(a=\\", "cn=", "cn=a,", "cn=\\,", "=", ")"} {
		texts = append(texts, strings.Repeat(s, 400), strings.Repeat(s, 100000))
	}
	return texts
}

func TestEntriesAnswerAtAnyText(t *testing.T) {
	for _, text := range oddDirTexts() {
		if name, ok := impl.ReadName(text); !impl.GoodDirName(name) || ok != isNameText(text) || !ok && len(name) != 0 {
			t.Errorf("ReadName(%.80q): got %q, %v", text, name, ok)
		}
		if got := impl.ReadFilter(text); !sameRes(got, readByWords(text)) {
			t.Errorf("ReadFilter(%.80q): got %+v", text, got)
		}
		impl.GoodDirName(nameOf(text, text))
		impl.NameText(nameOf("cn", text))
		impl.GoodFilter(filterOf(leafNode(impl.FilterLike, "a", text)))
		impl.FilterText(filterOf(leafNode(impl.FilterEqual, text, text)))
		impl.EntryFaults(dirSchema(), impl.Entry{Name: nameOf("cn", "a"), Attrs: []impl.Attr{{Name: "class", Values: []string{text}}}})
		impl.MatchFilter(dirSchema(), ann(), filterOf(leafNode(impl.FilterLeast, "rank", text)))
	}
}

func TestEntriesAnswerAtAnyNumbers(t *testing.T) {
	for _, kind := range append(oddInts(), 5, 6, 7, 8, 9) {
		for _, kids := range oddInts() {
			for _, behind := range [][]impl.FilterNode{nil, manyHas(1), manyHas(20), manyHas(59)} {
				f := append(filterOf(impl.FilterNode{Kind: kind, Kids: kids}), behind...)
				want := goodFilterByWords(f)
				if impl.GoodFilter(f) != want || (impl.FilterText(f) != "") != want || (impl.MatchFilter(dirSchema(), ann(), f) == -1) == want {
					t.Errorf("kind %d, %d kids, %d nodes behind: want %v", kind, kids, len(behind), want)
				}
				if found, refs := impl.Search(dirSchema(), staffEntries(), nil, kids, f); !want && len(found)+len(refs) != 0 {
					t.Errorf("Search with no good filter: got %v, %v", found, refs)
				}
			}
		}
	}
}

func TestEntriesAnswerAtAnySchemaAndEntry(t *testing.T) {
	entries := oddEntries()
	for _, s := range oddSchemas() {
		for _, e := range entries {
			good := impl.GoodDirSchema(s) && impl.GoodEntry(e)
			if faults := impl.EntryFaults(s, e); !good && len(faults) != 0 {
				t.Errorf("EntryFaults of what is not good: got %v", faults)
			}
			if got := impl.MatchFilter(s, e, manyHas(1)); good != (got >= 0 && got <= 2) || !good && got != -1 {
				t.Errorf("MatchFilter: got %d, good: %v", got, good)
			}
		}
	}
}

func TestSearchAnswersAtAnyNameAndFilter(t *testing.T) {
	names, entries := oddNames(), goodEntries()
	for _, f := range oddFilters() {
		for _, base := range names {
			good := impl.GoodFilter(f) && impl.GoodDirName(base)
			for _, scope := range []int{math.MinInt, 0, 1, 2, 3, 4, math.MaxInt} {
				if found, refs := impl.Search(dirSchema(), entries, base, scope, f); !good && len(found)+len(refs) != 0 {
					t.Errorf("Search of what is not good: got %v, %v", found, refs)
				}
			}
		}
	}
}

// withRoom is the list with others behind its end, where a write would be seen as well.
func withRoom[T any](list []T, behind T) []T {
	return append(slices.Clone(list), behind, behind, behind)[:len(list)]
}

// opened is a copy of the list with what stands behind its end.
func opened[T any](list []T) []T {
	return slices.Clone(list[:cap(list)])
}

func roomySchema(s impl.DirSchema) impl.DirSchema {
	s.Types = withRoom(s.Types, impl.AttrType{Name: "behind"})
	s.Classes = withRoom(s.Classes, impl.Class{Name: "behind"})
	for i, c := range s.Classes {
		s.Classes[i].Must, s.Classes[i].May = withRoom(c.Must, "behind"), withRoom(c.May, "behind")
	}
	return s
}

func openedSchema(s impl.DirSchema) impl.DirSchema {
	s.Types, s.Classes = opened(s.Types), opened(s.Classes)
	for i, c := range s.Classes {
		s.Classes[i].Must, s.Classes[i].May = opened(c.Must), opened(c.May)
	}
	return s
}

func roomyEntries(entries []impl.Entry) []impl.Entry {
	entries = withRoom(entries, impl.Entry{})
	for i, e := range entries {
		e.Name, e.Attrs = withRoom(e.Name, impl.Part{Attr: "behind"}), withRoom(e.Attrs, impl.Attr{Name: "behind"})
		for j, a := range e.Attrs {
			e.Attrs[j].Values = withRoom(a.Values, "behind")
		}
		entries[i] = e
	}
	return entries
}

func openedEntries(entries []impl.Entry) []impl.Entry {
	entries = opened(entries)
	for i, e := range entries {
		e.Name, e.Attrs = opened(e.Name), opened(e.Attrs)
		for j, a := range e.Attrs {
			e.Attrs[j].Values = opened(a.Values)
		}
		entries[i] = e
	}
	return entries
}

// dirArguments are all that the functions of the chapter take, but for texts and numbers.
type dirArguments struct {
	schema  impl.DirSchema
	entries []impl.Entry
	base    []impl.Part
	filter  []impl.FilterNode
}

func (a dirArguments) roomy() dirArguments {
	return dirArguments{roomySchema(a.schema), roomyEntries(a.entries), withRoom(a.base, impl.Part{Attr: "behind"}), withRoom(a.filter, hasNode("behind"))}
}

func (a dirArguments) opened() dirArguments {
	return dirArguments{openedSchema(a.schema), openedEntries(a.entries), opened(a.base), opened(a.filter)}
}

// ask calls every function of the chapter that takes a list.
func (a dirArguments) ask() {
	impl.GoodDirName(a.base)
	impl.NameText(a.base)
	impl.Under(a.base, a.base)
	impl.GoodDirSchema(a.schema)
	impl.GoodFilter(a.filter)
	impl.FilterText(a.filter)
	for _, e := range a.entries {
		impl.GoodEntry(e)
		impl.Under(e.Name, a.base)
		impl.EntryFaults(a.schema, e)
		impl.MatchFilter(a.schema, e, a.filter)
	}
	for scope := range 5 {
		impl.Search(a.schema, a.entries, a.base, scope, a.filter)
	}
}

// manyArguments have each odd schema, entry, name and filter in them, beside good ones.
func manyArguments() []dirArguments {
	good := dirArguments{dirSchema(), staffEntries(), nameOf("o", "org"), impl.ReadFilter("(|(cn=~a*)(&(age>=7)(!(hat=*))(rank<=3)(boss=o=org)))").Nodes}
	all := []dirArguments{good}
	for _, s := range oddSchemas() {
		all = append(all, dirArguments{s, good.entries, good.base, good.filter})
	}
	for _, e := range oddEntries() {
		all = append(all, dirArguments{good.schema, append(staffEntries(), e), good.base, good.filter})
	}
	for _, name := range oddNames() {
		all = append(all, dirArguments{good.schema, good.entries, name, good.filter})
	}
	for _, f := range oddFilters() {
		all = append(all, dirArguments{good.schema, good.entries, good.base, f})
	}
	turned := good.roomy()
	slices.Reverse(turned.schema.Types)
	slices.Reverse(turned.schema.Classes)
	slices.Reverse(turned.entries)
	return append(all, turned)
}

func TestArgumentsOfEntriesStayAsTheyWere(t *testing.T) {
	for i, told := range manyArguments() {
		a := told.roomy()
		before := a.opened()
		a.ask()
		if !reflect.DeepEqual(a.opened(), before) {
			t.Errorf("arguments %d changed", i)
		}
	}
}

// scribble writes over a list and over the room behind it.
func scribble[T any](list []T, x T) {
	list = list[:cap(list)]
	for i := range list {
		list[i] = x
	}
}

// scribbleOver writes over all of the arguments' lists.
func (a dirArguments) scribbleOver() {
	for _, e := range a.entries {
		for _, attr := range e.Attrs {
			scribble(attr.Values, "scribbled")
		}
		scribble(e.Attrs, impl.Attr{})
		scribble(e.Name, impl.Part{})
	}
	for _, c := range a.schema.Classes {
		scribble(c.Must, "scribbled")
		scribble(c.May, "scribbled")
	}
	scribble(a.entries, impl.Entry{})
	scribble(a.schema.Types, impl.AttrType{})
	scribble(a.schema.Classes, impl.Class{})
	scribble(a.base, impl.Part{})
	scribble(a.filter, impl.FilterNode{})
}

func TestAnswersOfEntriesShareNothingWithArguments(t *testing.T) {
	for i, told := range manyArguments() {
		a := told.roomy()
		found, refs := impl.Search(a.schema, a.entries, a.base, impl.ScopeAll, a.filter)
		faults := impl.EntryFaults(a.schema, a.entries[len(a.entries)-1])
		keptFound, keptRefs, keptFaults := slices.Clone(found), slices.Clone(refs), slices.Clone(faults)
		before := a.opened()
		scribble(found, -7)
		scribble(refs, "scribbled")
		scribble(faults, impl.Fault{Code: -7})
		if !reflect.DeepEqual(a.opened(), before) {
			t.Errorf("arguments %d changed with their answers", i)
		}
		found, refs = impl.Search(a.schema, a.entries, a.base, impl.ScopeAll, a.filter)
		faults = impl.EntryFaults(a.schema, a.entries[len(a.entries)-1])
		a.scribbleOver()
		if !slices.Equal(found, keptFound) || !slices.Equal(refs, keptRefs) || !slices.Equal(faults, keptFaults) {
			t.Errorf("answers %d changed with their arguments, or with earlier ones", i)
		}
	}
}

func TestReadAnswersShareNothing(t *testing.T) {
	for _, told := range goodNames() {
		first, _ := impl.ReadName(told.text)
		second, _ := impl.ReadName(told.text)
		scribble(first, impl.Part{Attr: "x", Text: "y"})
		third, _ := impl.ReadName(told.text)
		if !slices.Equal(second, told.name) || !slices.Equal(third, told.name) {
			t.Errorf("ReadName(%q): an answer changed with another", told.text)
		}
	}
	for _, told := range goodFilters() {
		first := impl.ReadFilter(told.text)
		second := impl.ReadFilter(told.text)
		scribble(first.Nodes, impl.FilterNode{Kind: -7})
		third := impl.ReadFilter(told.text)
		if !slices.Equal(second.Nodes, told.nodes) || !slices.Equal(third.Nodes, told.nodes) {
			t.Errorf("ReadFilter(%q): an answer changed with another", told.text)
		}
	}
}
