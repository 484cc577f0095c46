package tests

import (
	"slices"
	"strings"
	"testing"

	"loop.example/g00036/impl"
)

// oddTexts are texts of every sort, well formed or not.
func oddTexts() []string {
	texts := append(badAtomTexts(), badValueTexts()...)
	for _, v := range goodValues() {
		texts = append(texts, v.text)
	}
	for _, s := range []string{"[", "{", "\"", "\\", ",", "1,", "[\"", "{a:", "@", "/", ".", "1.", "::", "*", "a", "9", "-", "\x00", "\xff"} {
		texts = append(texts, strings.Repeat(s, 3000), "["+strings.Repeat(s, 3000)+"]", "{a:"+strings.Repeat(s, 3000)+"}")
	}
	return texts
}

func oddAtoms() []impl.Atom {
	atoms := badAtoms()
	for _, g := range goodAtoms() {
		atoms = append(atoms, g.atom)
	}
	for kind := -1; kind <= 9; kind++ {
		atoms = append(atoms, impl.Atom{Kind: kind, Num: -1, Text: strings.Repeat("\\\"", 9000), Type: strings.Repeat("T", 9000)})
	}
	return atoms
}

func oddValues() []impl.Value {
	values := badValues()
	for _, v := range goodValues() {
		values = append(values, v.value)
	}
	for kind := -1; kind <= 4; kind++ {
		values = append(values,
			impl.Value{Kind: kind, Items: make([]impl.Atom, 3000)},
			impl.Value{Kind: kind, Names: make([]string, 3000)},
			impl.Value{Kind: kind, Items: countedAtoms(3), Names: make([]string, 3000)},
			impl.Value{Kind: kind, Items: make([]impl.Atom, 3000), Names: countedNames(3)},
		)
	}
	return values
}

func copyValue(v impl.Value) impl.Value {
	v.Items, v.Names = slices.Clone(v.Items), slices.Clone(v.Names)
	return v
}

func TestAnswersAtAnyText(t *testing.T) {
	for _, s := range oddTexts() {
		impl.GoodName(s)
		if a, ok := impl.ReadAtom(s); ok != impl.GoodAtom(a) {
			t.Errorf("ReadAtom(%.80q): got %+v, %v", s, a, ok)
		}
		if v, ok := impl.ReadValue(s); ok != impl.GoodValue(v) {
			t.Errorf("ReadValue(%.80q): got %+v, %v", s, v, ok)
		}
		for _, other := range []string{"", "*", "\\", "a\\", "\\*\\\\*a", strings.Repeat("*a", 100), s} {
			impl.Like(s, other)
			impl.Like(other, s)
		}
	}
}

func TestAnswersAtAnyAtoms(t *testing.T) {
	for _, a := range oddAtoms() {
		if good := impl.GoodAtom(a); good != (impl.AtomText(a) != "") {
			t.Errorf("%.80q: good %v, but its text says otherwise", a.Text, good)
		}
		for _, b := range oddAtoms() {
			both := impl.GoodAtom(a) && impl.GoodAtom(b)
			if order := impl.CompareAtoms(a, b); both != (order >= -1 && order <= 1) || !both && order != -2 {
				t.Errorf("CompareAtoms: got %d, both good: %v", order, both)
			}
			if !both && impl.AddrIn(a, b) {
				t.Errorf("AddrIn of an atom that is not good")
			}
		}
	}
}

func TestAnswersAtAnyValue(t *testing.T) {
	for _, v := range oddValues() {
		if good := impl.GoodValue(v); good != (impl.ValueText(v) != "") {
			t.Errorf("value of kind %d: good %v, but its text says otherwise", v.Kind, good)
		}
		if set := impl.SetOf(v.Items); !impl.GoodValue(set) && !isZero(set) {
			t.Errorf("SetOf: got %+v", set)
		}
	}
}

// The lists have room behind their ends, so that a write there would be seen as well.
func TestArgumentsStayAsTheyWere(t *testing.T) {
	for _, told := range oddValues() {
		v := copyValue(told)
		v.Items = append(v.Items, textAtom("behind"), textAtom("behind"))[:len(v.Items)]
		v.Names = append(v.Names, "behind", "behind")[:len(v.Names)]
		slices.Reverse(v.Items)
		before := copyValue(impl.Value{Items: v.Items[:len(v.Items)+2], Names: v.Names[:len(v.Names)+2]})
		impl.GoodValue(v)
		impl.ValueText(v)
		impl.SetOf(v.Items)
		after := impl.Value{Items: v.Items[:len(v.Items)+2], Names: v.Names[:len(v.Names)+2]}
		if !sameValue(before, after) {
			t.Fatalf("an argument changed: %+v, before %+v", after, before)
		}
	}
}

func TestSetSharesNothingWithItsItems(t *testing.T) {
	for _, items := range [][]impl.Atom{
		{numAtom(1)},
		{numAtom(1), numAtom(2), textAtom("a")},
		{numAtom(2), numAtom(2), numAtom(1)},
		countedAtoms(impl.MaxItems),
	} {
		set := impl.SetOf(items)
		answer, argument := copyValue(set), slices.Clone(items)
		for i := range items {
			items[i] = textAtom("of the argument")
		}
		if !sameValue(set, answer) {
			t.Errorf("the set changed with its items: %+v", set)
		}
		copy(items, argument)
		for i := range set.Items[:cap(set.Items)] {
			set.Items[:cap(set.Items)][i] = textAtom("of the answer")
		}
		if !slices.Equal(items, argument) {
			t.Errorf("the items changed with the set: %+v", items)
		}
	}
}

func TestAnswersShareNothingWithEachOther(t *testing.T) {
	for _, told := range goodValues() {
		first, _ := impl.ReadValue(told.text)
		second, _ := impl.ReadValue(told.text)
		for i := range first.Items {
			first.Items[i] = textAtom("changed")
		}
		for i := range first.Names {
			first.Names[i] = "changed"
		}
		if !sameValue(second, told.value) {
			t.Errorf("ReadValue(%s): one answer changed with another", told.text)
		}
		if third, ok := impl.ReadValue(told.text); !ok || !sameValue(third, told.value) {
			t.Errorf("ReadValue(%s): an answer changed with what was done to an earlier one", told.text)
		}
	}
}
