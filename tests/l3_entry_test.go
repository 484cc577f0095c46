package tests

import (
	"math"
	"math/rand"
	"reflect"
	"slices"
	"strconv"
	"strings"
	"testing"

	"loop.example/g00036/impl"
)

func TestConstantsOfEntries(t *testing.T) {
	got := []int{
		impl.MaxParts, impl.MaxAttrs, impl.MaxValues, impl.MaxTypes, impl.MaxClasses, impl.MaxEntries, impl.MaxFilter, impl.MaxNodes,
		impl.SynText, impl.SynExact, impl.SynNum, impl.SynName,
		impl.FaultClass, impl.FaultMust, impl.FaultType, impl.FaultMay, impl.FaultSingle, impl.FaultSyntax, impl.FaultName,
		impl.FilterAnd, impl.FilterOr, impl.FilterNot, impl.FilterEqual, impl.FilterLeast, impl.FilterMost, impl.FilterHas, impl.FilterLike,
		impl.ScopeBase, impl.ScopeOne, impl.ScopeAll, impl.No, impl.Yes, impl.Maybe,
	}
	want := []int{8, 30, 30, 40, 20, 200, 1000, 60, 1, 2, 3, 4, 1, 2, 3, 4, 5, 6, 7, 1, 2, 3, 4, 5, 6, 7, 8, 1, 2, 3, 0, 1, 2}
	if !slices.Equal(got, want) {
		t.Errorf("constants: got %v, want %v", got, want)
	}
}

func TestNamesAreReadAsWhatTheyAre(t *testing.T) {
	for _, told := range goodNames() {
		if !impl.GoodDirName(told.name) {
			t.Errorf("GoodDirName(%q): want true", told.name)
		}
		if got := impl.NameText(told.name); got != told.text {
			t.Errorf("NameText(%q): got %q, want %q", told.name, got, told.text)
		}
		if got, ok := impl.ReadName(told.text); !ok || !slices.Equal(got, told.name) {
			t.Errorf("ReadName(%q): got %q, %v", told.text, got, ok)
		}
	}
	for _, name := range badNames() {
		if impl.GoodDirName(name) || impl.NameText(name) != "" {
			t.Errorf("%.80q is no good name", name)
		}
	}
	for _, text := range badNameTexts() {
		if got, ok := impl.ReadName(text); ok || len(got) != 0 {
			t.Errorf("ReadName(%.80q): got %q, %v", text, got, ok)
		}
	}
}

func TestNamesWithEachByte(t *testing.T) {
	for c := range 256 {
		s := string([]byte{byte(c)})
		printed := c >= 32 && c <= 126
		for _, text := range []string{s, "x" + s, s + "x", "x" + s + "x"} {
			name := nameOf("cn", text, "o", text)
			if impl.GoodDirName(name) != printed {
				t.Errorf("a Text with byte %d: want %v", c, printed)
			}
			if got, ok := impl.ReadName(nameTextByWords(name)); ok != printed || printed && !slices.Equal(got, name) {
				t.Errorf("ReadName(%q): got %q, %v", nameTextByWords(name), got, ok)
			}
		}
		if impl.GoodDirName(nameOf("a"+s, "x")) != impl.GoodName("a"+s) || impl.GoodDirName(nameOf(s, "x")) != impl.GoodName(s) {
			t.Errorf("an Attr with byte %d", c)
		}
	}
}

// shortNames are all names whose text has at most so many bytes of `a`, `=`, `,` and `\`.
func shortNames(most int) map[string][]impl.Part {
	all := map[string][]impl.Part{"": nil}
	var parts []impl.Part
	for _, attr := range textsOver("a", most) {
		for _, text := range textsOver("a=,\\", most-2) {
			p := impl.Part{Attr: attr, Text: text}
			if attr != "" && text != "" && len(nameTextByWords([]impl.Part{p})) <= most {
				parts = append(parts, p)
			}
		}
	}
	begun := [][]impl.Part{nil}
	for len(begun) > 0 {
		name := begun[0]
		begun = begun[1:]
		for _, p := range parts {
			longer := append(slices.Clone(name), p)
			if text := nameTextByWords(longer); len(text) <= most {
				all[text] = longer
				begun = append(begun, longer)
			}
		}
	}
	return all
}

func TestShortTextsAreNamesOrNone(t *testing.T) {
	const most = 7
	names := shortNames(most)
	for _, text := range textsOver("a=,\\", most) {
		want, is := names[text]
		if got, ok := impl.ReadName(text); ok != is || !slices.Equal(got, want) {
			t.Fatalf("ReadName(%q): got %q, %v, want %q, %v", text, got, ok, want, is)
		}
	}
}

func TestNoNameIsReadThatIsNotTold(t *testing.T) {
	for _, told := range goodNames() {
		changed(told.text, "a=,\\ \x00\xff9_", func(text string) {
			got, ok := impl.ReadName(text)
			if ok != isNameText(text) {
				t.Fatalf("ReadName(%q): got %q, %v", text, got, ok)
			}
			if ok && impl.NameText(got) != text || !ok && len(got) != 0 {
				t.Fatalf("ReadName(%q): got %q, %v, which is told %q", text, got, ok, impl.NameText(got))
			}
		})
	}
}

func TestUnder(t *testing.T) {
	var parts []impl.Part
	for _, text := range []string{"a", "a,o=a", "\\", "A"} {
		parts = append(parts, impl.Part{Attr: "cn", Text: text}, impl.Part{Attr: "o", Text: text})
	}
	names := [][]impl.Part{nil, {}}
	for i := 0; i < len(names); i++ {
		for _, p := range parts {
			if len(names[i]) < 2 || len(names[i]) < 3 && p.Attr == "o" && p.Text < "b" && names[i][0].Text == "a" {
				names = append(names, append(slices.Clone(names[i]), p))
			}
		}
	}
	for _, name := range names {
		for _, base := range names {
			if got := impl.Under(name, base); got != underByWords(name, base) {
				t.Fatalf("Under(%q, %q): got %v", name, base, got)
			}
		}
	}
	full := repeatedName("cn", "a", impl.MaxParts)
	if !impl.Under(full, full) || !impl.Under(full, nil) || !impl.Under(full, full[1:]) || impl.Under(full[1:], full) {
		t.Error("Under at MaxParts")
	}
}

func TestUnderOfNoGoodNames(t *testing.T) {
	for _, bad := range badNames() {
		if impl.Under(bad, nil) || impl.Under(bad, bad) || impl.Under(bad, bad[1:]) || impl.Under(nil, bad) || impl.Under(bad[1:], bad) {
			t.Errorf("Under with %.80q: want false", bad)
		}
	}
}

func TestGoodDirSchema(t *testing.T) {
	for i, s := range goodSchemas() {
		if !impl.GoodDirSchema(s) {
			t.Errorf("good schema %d: want true", i)
		}
	}
	for i, s := range badTypeSchemas() {
		if impl.GoodDirSchema(s) {
			t.Errorf("schema %d with wrong types: want false", i)
		}
	}
	for i, s := range badClassSchemas() {
		if impl.GoodDirSchema(s) {
			t.Errorf("schema %d with wrong classes: want false", i)
		}
	}
}

// Every way in which four classes can have each other, themselves, none or another text as their Up.
func TestGoingUpEnds(t *testing.T) {
	names := []string{"A", "B", "C", "D"}
	ups := []string{"A", "B", "C", "D", "", "E"}
	for choice := range 6 * 6 * 6 * 6 {
		s := impl.DirSchema{Types: countedTypes(1)}
		up := map[string]string{}
		for i, name := range names {
			up[name] = ups[choice/[]int{1, 6, 36, 216}[i]%6]
			s.Classes = append(s.Classes, impl.Class{Name: name, Up: up[name]})
		}
		want := true
		for _, name := range names {
			for range 4 {
				if name != "" && name != "E" {
					name = up[name]
				}
			}
			want = want && name == ""
		}
		if impl.GoodDirSchema(s) != want {
			t.Fatalf("Ups %v: want %v", up, want)
		}
	}
}

func TestGoodEntry(t *testing.T) {
	for i, e := range goodEntries() {
		if !impl.GoodEntry(e) {
			t.Errorf("good entry %d: want true", i)
		}
	}
	for i, e := range badEntries() {
		if impl.GoodEntry(e) {
			t.Errorf("bad entry %d: want false", i)
		}
	}
}

func fault(code int, name string) impl.Fault {
	return impl.Fault{Code: code, Name: name}
}

func TestEntryFaultsInTheirOrder(t *testing.T) {
	for i, c := range []struct {
		entry impl.Entry
		want  []impl.Fault
	}{
		{entryOf(nameOf("cn", "aNN"), "age=7", "class=Person", "cn=Ann"), nil},
		{entryOf(nameOf("cn", "Ann"), "class=Top", "cn=Ann"), []impl.Fault{fault(impl.FaultMay, "cn")}},
		{entryOf(nameOf("boss", "a=b"), "boss=a=b", "class=Staff", "cn=x"), nil},
		{entryOf(nameOf("x", "y"), "x=y"), []impl.Fault{fault(impl.FaultMust, "class"), fault(impl.FaultType, "x")}},
		{entryOf(nameOf("x", "Y"), "x=y"), []impl.Fault{fault(impl.FaultMust, "class"), fault(impl.FaultType, "x"), fault(impl.FaultName, "x")}},
		{entryOf(nameOf("cn", "b"), "class=Chief"), []impl.Fault{fault(impl.FaultMust, "boss"), fault(impl.FaultMust, "cn"), fault(impl.FaultMust, "code"), fault(impl.FaultMust, "rank"), fault(impl.FaultName, "cn")}},
		{entryOf(nameOf("key", "k"), "class=Chief|Robot"), []impl.Fault{fault(impl.FaultMust, "boss"), fault(impl.FaultMust, "cn"), fault(impl.FaultMust, "code"), fault(impl.FaultMust, "key"), fault(impl.FaultMust, "rank"), fault(impl.FaultName, "key")}},
		{entryOf(nameOf("nick", "N"), "cn=x", "nick=n|o"), []impl.Fault{fault(impl.FaultMust, "class"), fault(impl.FaultMay, "cn"), fault(impl.FaultMay, "nick"), fault(impl.FaultSingle, "nick")}},
		{entryOf(nameOf("age", "8"), "age=7|x|y", "class=Cat|Dog|person"), []impl.Fault{fault(impl.FaultClass, "Cat"), fault(impl.FaultClass, "Dog"), fault(impl.FaultClass, "person"), fault(impl.FaultMay, "age"), fault(impl.FaultSingle, "age"), fault(impl.FaultSyntax, "age"), fault(impl.FaultName, "age")}},
		{entryOf(nameOf("age", "x"), "age=x", "class=Person", "cn=a"), []impl.Fault{fault(impl.FaultSyntax, "age"), fault(impl.FaultName, "age")}},
		{entryOf(nameOf("home", "x"), "class=Chief", "home=x|y=z"), []impl.Fault{fault(impl.FaultMust, "boss"), fault(impl.FaultMust, "cn"), fault(impl.FaultMust, "code"), fault(impl.FaultMust, "rank"), fault(impl.FaultSingle, "home"), fault(impl.FaultSyntax, "home")}},
		{entryOf(nameOf("key", "K", "key", "k"), "class=Robot", "key=k"), []impl.Fault{fault(impl.FaultName, "key")}},
		{entryOf(nameOf("code", "A"), "class=Chief", "code=a", "rank=1"), []impl.Fault{fault(impl.FaultMust, "boss"), fault(impl.FaultMust, "cn"), fault(impl.FaultName, "code")}},
		{entryOf(nameOf("class", "Top"), "class=Top|x y"), []impl.Fault{fault(impl.FaultClass, "x y")}},
		{entryOf(nameOf("rank", "9"), "class=Chief", "rank=-1|007|9"), []impl.Fault{fault(impl.FaultMust, "boss"), fault(impl.FaultMust, "cn"), fault(impl.FaultMust, "code"), fault(impl.FaultSyntax, "rank")}},
	} {
		if !impl.GoodEntry(c.entry) {
			t.Fatalf("entry %d is not good", i)
		}
		if got := impl.EntryFaults(dirSchema(), c.entry); !slices.Equal(got, c.want) {
			t.Errorf("faults of entry %d: got %v, want %v", i, got, c.want)
		}
	}
}

// drawnNames are some of the names, in their order.
func drawnNames(from *rand.Rand, all []string) []string {
	var some []string
	for _, name := range all {
		if from.Intn(3) == 0 {
			some = append(some, name)
		}
	}
	return some
}

// drawnSchema has the types of dirSchema, with other syntaxes, and classes of which each goes up to a later one.
func drawnSchema(from *rand.Rand) impl.DirSchema {
	s := dirSchema()
	for i := range s.Types {
		if s.Types[i].Name != "class" {
			s.Types[i].Syntax, s.Types[i].Single = 1+from.Intn(4), from.Intn(2) == 0
		}
	}
	s.Types = slices.DeleteFunc(s.Types, func(t impl.AttrType) bool { return t.Name != "class" && from.Intn(4) == 0 })
	for i := range s.Classes {
		c := impl.Class{Name: s.Classes[i].Name, Must: drawnNames(from, typeNames(s.Types)), May: drawnNames(from, typeNames(s.Types))}
		if rest := s.Classes[i+1:]; len(rest) > 0 && from.Intn(3) > 0 {
			c.Up = oneOf(from, rest).Name
		}
		s.Classes[i] = c
	}
	return s
}

// dirTexts are Texts and values that are of some syntaxes and not of others, or the same but for their letters.
func dirTexts() []string {
	return []string{
		"a", "A", "b", "aB", "Ab", "a*", "~", "*", "(", ")", "\\", "a\\", "\\a", "0", "7", "10", "9", "-1", "-10", "007", "-0", "+7", "7.0", "7.0000", "@7", "true", "\"7\"", "10.0.0.0/8", "A::\"7\"",
		"9223372036854775807", "9223372036854775808", "-9223372036854775808", "-9223372036854775809", "cn=a", "CN=a", "cn=A", "cn=a\\,b", "cn=a,b", "cn=a,o=b", "Z", "[", "z", "{", " ",
	}
}

func drawnValues(from *rand.Rand) []string {
	var values []string
	for range 1 + from.Intn(3) {
		values = append(values, oneOf(from, dirTexts()))
	}
	slices.Sort(values)
	return slices.Compact(values)
}

// drawnEntry has attributes that the schema knows, and one that it never does.
func drawnEntry(from *rand.Rand) impl.Entry {
	names := append(typeNames(dirSchema().Types), "zip")
	e := impl.Entry{Name: nameOf(oneOf(from, names), oneOf(from, dirTexts()), "o", "org")}
	for _, name := range names {
		switch {
		case from.Intn(2) == 0:
		case name == "class":
			classes := drawnNames(from, []string{"Chief", "Person", "Robot", "Staff", "Top", "cat", "person"})
			if len(classes) > 0 {
				e.Attrs = append(e.Attrs, impl.Attr{Name: name, Values: classes})
			}
		default:
			e.Attrs = append(e.Attrs, impl.Attr{Name: name, Values: drawnValues(from)})
		}
	}
	if len(e.Attrs) == 0 {
		e.Attrs = []impl.Attr{{Name: "cn", Values: drawnValues(from)}}
	}
	return e
}

func TestEntryFaultsByTheirWords(t *testing.T) {
	from := drawn()
	told := map[int]int{}
	for range 20000 {
		s, e := drawnSchema(from), drawnEntry(from)
		want := faultsByWords(s, e)
		if got := impl.EntryFaults(s, e); !slices.Equal(got, want) {
			t.Fatalf("EntryFaults(%+v, %+v): got %v, want %v", s, e, got, want)
		}
		for _, f := range want {
			told[f.Code]++
		}
	}
	for code := 1; code <= 7; code++ {
		if told[code] < 100 {
			t.Errorf("faults of code %d: only %d were drawn", code, told[code])
		}
	}
}

func TestFaultsAlongTheLongestWayUp(t *testing.T) {
	s := goodSchemas()[4]
	last := len(s.Classes) - 1
	s.Classes[last].Must = []string{"tn105"}
	s.Classes[last].May = []string{"tn106"}
	e := entryOf(nameOf("tn106", "X"), "class="+s.Classes[0].Name, "tn106=x")
	if got := impl.EntryFaults(s, e); !slices.Equal(got, []impl.Fault{fault(impl.FaultMust, "tn105")}) {
		t.Errorf("got %v", got)
	}
	e.Attrs[0].Values[0] = s.Classes[last].Name
	if got := impl.EntryFaults(s, e); !slices.Equal(got, []impl.Fault{fault(impl.FaultMust, "tn105")}) {
		t.Errorf("got %v", got)
	}
}

func TestFaultsOfNoGoodOnes(t *testing.T) {
	for _, s := range badSchemas() {
		for _, e := range goodEntries() {
			if got := impl.EntryFaults(s, e); len(got) != 0 {
				t.Errorf("EntryFaults with a bad schema: got %v", got)
			}
		}
	}
	for _, e := range badEntries() {
		if got := impl.EntryFaults(dirSchema(), e); len(got) != 0 {
			t.Errorf("EntryFaults with a bad entry: got %v", got)
		}
	}
}

func TestFiltersAreReadAsWhatTheyAre(t *testing.T) {
	for _, told := range goodFilters() {
		if !impl.GoodFilter(told.nodes) {
			t.Errorf("GoodFilter of %q: want true", told.text)
		}
		if got := impl.FilterText(told.nodes); got != told.text {
			t.Errorf("FilterText: got %q, want %q", got, told.text)
		}
		if got := impl.ReadFilter(told.text); got.Err != 0 || got.At != 0 || !slices.Equal(got.Nodes, told.nodes) {
			t.Errorf("ReadFilter(%q): got %+v", told.text, got)
		}
		if got := readByWords(told.text); !reflect.DeepEqual(got, impl.FilterRes{Nodes: told.nodes}) {
			t.Errorf("%q by the words: got %+v", told.text, got)
		}
	}
	for i, f := range badFilters() {
		if impl.GoodFilter(f) || impl.FilterText(f) != "" {
			t.Errorf("bad filter %d: %.80v", i, f)
		}
	}
}

func TestFilterTextAtItsLimit(t *testing.T) {
	for length, is := range map[int]bool{impl.MaxFilter - 1: true, impl.MaxFilter: true, impl.MaxFilter + 1: false} {
		f := longFilter(length)
		if !impl.GoodFilter(f) {
			t.Errorf("a filter of %d bytes: want good", length)
		}
		want := filterTextByWords(f)
		if len(want) != length {
			t.Fatalf("a filter of %d bytes has %d", length, len(want))
		}
		if got := impl.FilterText(f); is && got != want || !is && got != "" {
			t.Errorf("FilterText of %d bytes: got %q", length, got)
		}
		got := impl.ReadFilter(want)
		if is && (got.Err != 0 || !slices.Equal(got.Nodes, f)) || !is && !reflect.DeepEqual(got, impl.FilterRes{Err: 1}) {
			t.Errorf("ReadFilter of %d bytes: got %+v", length, got)
		}
	}
}

func TestTextsOfNoFilter(t *testing.T) {
	for text, want := range badFilterTexts() {
		got := impl.ReadFilter(text)
		if got.Err != want.err || got.At != want.at || len(got.Nodes) != 0 {
			t.Errorf("ReadFilter(%.120q): got %+v, want %+v", text, got, want)
		}
		if words := readByWords(text); words.Err != want.err || words.At != want.at {
			t.Errorf("%.120q by the words: got %+v, want %+v", text, words, want)
		}
	}
}

func sameRes(a impl.FilterRes, b impl.FilterRes) bool {
	return a.Err == b.Err && a.At == b.At && slices.Equal(a.Nodes, b.Nodes)
}

// askRead holds what ReadFilter answers against the words, and says whether it is a filter.
func askRead(t *testing.T, text string) bool {
	t.Helper()
	got, want := impl.ReadFilter(text), readByWords(text)
	if !sameRes(got, want) {
		t.Fatalf("ReadFilter(%q): got %+v, want %+v", text, got, want)
	}
	if got.Err == 0 && impl.FilterText(got.Nodes) != text {
		t.Fatalf("ReadFilter(%q): got %+v, which is told %q", text, got, impl.FilterText(got.Nodes))
	}
	return got.Err == 0
}

// All texts of a few bytes, behind each beginning that leads to another place of a filter.
func TestShortTextsAreFiltersOrNone(t *testing.T) {
	read := 0
	for _, begin := range []string{"", "(a", "(a=", "(a=b", "(a=~", "(a>=", "(&", "(!(a=*)", "(|(a=\\("} {
		for _, text := range textsOver("()&!a=>*~\\\x00", 5) {
			if askRead(t, begin+text) {
				read++
			}
		}
	}
	if read < 1000 {
		t.Errorf("only %d of the texts were filters", read)
	}
}

func TestNoFilterIsReadThatIsNotTold(t *testing.T) {
	for _, told := range goodFilters() {
		if len(told.text) > 150 {
			continue
		}
		changed(told.text, "()&|!a9_=<>*~\\ \x00\x7f\xff", func(text string) { askRead(t, text) })
		for end := range told.text {
			if got := impl.ReadFilter(told.text[:end]); got.Err != 2 || got.At != end {
				t.Errorf("%q ends early at %d: got %+v", told.text, end, got)
			}
		}
	}
}

func TestEachByteInAFilter(t *testing.T) {
	for c := range 256 {
		s := string([]byte{byte(c)})
		for _, text := range []string{s, "(" + s, "(" + s + "=*)", "(a" + s, "(a" + s + "=*)", "(a=" + s + ")", "(a=b" + s + ")", "(a=\\" + s + ")", "(a=b\\" + s + ")",
			"(a=~" + s + ")", "(a=~b" + s + ")", "(a=~\\" + s + ")", "(a>=" + s + ")", "(a<=\\" + s + ")", "(a>" + s + "b)", "(a=*" + s, "(&" + s, "(!" + s, "(!(a=b)" + s, "(&(a=b)" + s, "(&)" + s} {
			askRead(t, text)
		}
	}
}

// filterLeaf draws a leaf; some are beyond a limit, or no pattern.
func filterLeaf(from *rand.Rand) impl.FilterNode {
	names := append(typeNames(dirSchema().Types), "zip")
	if from.Intn(30) == 0 {
		names = []string{strings.Repeat("N", impl.MaxName), strings.Repeat("N", impl.MaxName+1)}
	}
	n := impl.FilterNode{Kind: 4 + from.Intn(5), Attr: oneOf(from, names), Text: oneOf(from, dirTexts())}
	if from.Intn(30) == 0 {
		n.Text = strings.Repeat("x", impl.MaxText+from.Intn(2))
	}
	if n.Kind == impl.FilterHas {
		n.Text = ""
	}
	return n
}

func TestDrawnFiltersAreReadAsWhatTheyAre(t *testing.T) {
	from := drawn()
	told := map[int]int{}
	for range 20000 {
		f := drawnTree(from, 1+from.Intn(24), func() impl.FilterNode { return filterLeaf(from) })
		good, text := goodFilterByWords(f), filterTextByWords(f)
		if impl.GoodFilter(f) != good {
			t.Fatalf("GoodFilter(%v): want %v", f, good)
		}
		want := impl.FilterRes{Err: 3}
		switch {
		case len(text) > impl.MaxFilter:
			want = impl.FilterRes{Err: 1}
		case good:
			want = impl.FilterRes{Nodes: f}
		}
		if got := impl.ReadFilter(text); !sameRes(got, want) {
			t.Fatalf("ReadFilter(%q): got %+v, want %+v", text, got, want)
		}
		if want.Err != 0 {
			text = ""
		}
		if got := impl.FilterText(f); got != text {
			t.Fatalf("FilterText(%v): got %q, want %q", f, got, text)
		}
		told[want.Err]++
	}
	for _, err := range []int{0, 1, 3} {
		if told[err] < 50 {
			t.Errorf("filters with Err %d: only %d were drawn", err, told[err])
		}
	}
}

// Lists of nodes that may be no tree, or more than one.
func TestDrawnNodesAreFiltersOrNone(t *testing.T) {
	from := drawn()
	good := 0
	for range 50000 {
		var f []impl.FilterNode
		for range 1 + from.Intn(6) {
			n := oneOf(from, filterOf(andNode(from.Intn(4)-1), orNode(from.Intn(3)), notNode(), hasNode("a"), filterLeaf(from)))
			if from.Intn(20) == 0 {
				n = oneOf(from, badNodes())
			}
			f = append(f, n)
		}
		is := goodFilterByWords(f)
		if impl.GoodFilter(f) != is || (impl.FilterText(f) != "") != is {
			t.Fatalf("GoodFilter(%v): want %v", f, is)
		}
		if is {
			good++
		}
	}
	if good < 1000 {
		t.Errorf("only %d of the lists were filters", good)
	}
}

func ann() impl.Entry {
	return entryOf(nameOf("cn", "Ann", "o", "org"),
		"age=7", "boss=CN=bob|cn=Bob,o=org|x", "class=Person", "cn=ANNA|Ann|[x", "code=Ab|b\\*", "rank=-3|10|9|x")
}

// answersOf are what filters say of ann, in three lists.
func answersOf() map[int][]string {
	return map[int][]string{
		impl.Yes: {
			"(&)", "(age=*)", "(cn=*)", "(boss=*)", "(age=7)", "(cn=ann)", "(cn=ANN)", "(cn=Anna)", "(code=Ab)", "(code=b\\\\*)", "(boss=cn=Bob,o=org)", "(boss=CN=bob)",
			"(age>=7)", "(age<=7)", "(age>=-8)", "(age<=10)", "(age<=9223372036854775807)", "(age>=-9223372036854775808)", "(rank<=-3)", "(rank>=10)", "(rank=10)", "(rank=-3)",
			"(cn>=anna)", "(cn>=ANNA)", "(cn<=ann)", "(cn<=ANN)", "(cn>=aNN0)", "(cn>=Z)", "(cn>=[w)", "(cn>=[x)", "(cn>=z)", "(code>=Ab)", "(code>=b)", "(code<=Ab)", "(code<=a)", "(code<=B)",
			"(cn=~*)", "(cn=~a*)", "(cn=~*NN)", "(cn=~aNn)", "(cn=~[*)", "(code=~A*)", "(code=~b\\\\\\\\*)", "(code=~*\\\\*)", "(code=~b\\\\\\\\\\\\*)", "(!(cn=bob))", "(!(&(cn=ann)(cn=bob)))",
		},
		impl.No: {
			"(|)", "(home=*)", "(ref=*)", "(nick=*)", "(age=8)", "(age=-7)", "(cn=an)", "(cn=bob)", "(cn=annb)", "(code=ab)", "(code=AB)", "(boss=cn=bob,o=org)", "(boss=cn=bob)", "(home=a=b)", "(nick=x)",
			"(age>=8)", "(age<=6)", "(rank>=11)", "(rank<=-4)", "(rank<=-10)", "(rank>=100)", "(cn>=|)", "(cn>={)", "(cn<=ana)", "(code>=c)", "(code<=AZ)", "(nick>=a)", "(nick<=z)",
			"(cn=~b*)", "(cn=~annaa*)", "(code=~a*)", "(code=~AB)", "(nick=~*)", "(key=~*)", "(!(cn=ann))", "(&(cn=ann)(cn=bob))", "(|(cn=bob)(code=x))",
		},
		impl.Maybe: {
			"(hat=*)", "(hat=x)", "(hat>=1)", "(hat<=1)", "(hat=~*)", "(Age=7)", "(age=x)", "(age=07)", "(age=-0)", "(age=+7)", "(age=7.0)", "(age=7.0000)", "(age>=@7)", "(age<=true)", "(rank=x)", "(age=9223372036854775808)", "(age>=9223372036854775808)", "(age<=-9223372036854775809)", "(age>=x)", "(rank<=1a)",
			"(boss=x)", "(boss=cn=)", "(boss=cn=a,)", "(boss>=cn=a)", "(boss<=x)", "(home>=a=b)", "(age=~7)", "(age=~*)", "(boss=~*)", "(home=~x)", "(!(hat=*))", "(&(hat=*)(cn=ann))", "(|(hat=*)(cn=bob))",
		},
	}
}

func TestMatchFilter(t *testing.T) {
	for want, texts := range answersOf() {
		for _, text := range texts {
			r := impl.ReadFilter(text)
			if r.Err != 0 {
				t.Errorf("ReadFilter(%q): got %+v", text, r)
			} else if got := impl.MatchFilter(dirSchema(), ann(), r.Nodes); got != want {
				t.Errorf("MatchFilter %q: got %d, want %d", text, got, want)
			}
		}
	}
}

// leafSaying is a leaf that says so of ann.
func leafSaying(truth int) impl.FilterNode {
	switch truth {
	case impl.Yes:
		return leafNode(impl.FilterEqual, "cn", "ann")
	case impl.No:
		return leafNode(impl.FilterEqual, "cn", "bob")
	}
	return hasNode("hat")
}

// The document's words once more, of each row of up to four kids.
func TestFiltersAreDecidedByTheirParts(t *testing.T) {
	for _, row := range textsOver("012", 4) {
		f := filterOf(andNode(len(row)))
		for _, c := range row {
			f = append(f, leafSaying(int(c-'0')))
		}
		and, or := impl.Yes, impl.No
		if strings.Contains(row, "2") {
			and, or = impl.Maybe, impl.Maybe
		}
		if strings.Contains(row, "0") {
			and = impl.No
		}
		if strings.Contains(row, "1") {
			or = impl.Yes
		}
		not := map[int]int{impl.Yes: impl.No, impl.No: impl.Yes, impl.Maybe: impl.Maybe}
		for kind, want := range map[int]int{impl.FilterAnd: and, impl.FilterOr: or} {
			f[0].Kind = kind
			if got := impl.MatchFilter(dirSchema(), ann(), f); got != want {
				t.Errorf("kind %d of kids %q: got %d, want %d", kind, row, got, want)
			}
			if got := impl.MatchFilter(dirSchema(), ann(), append(filterOf(notNode()), f...)); got != not[want] {
				t.Errorf("not kind %d of kids %q: got %d, want %d", kind, row, got, not[want])
			}
			if got := impl.MatchFilter(dirSchema(), ann(), append(filterOf(notNode(), notNode()), f...)); got != want {
				t.Errorf("not not kind %d of kids %q: got %d, want %d", kind, row, got, want)
			}
		}
	}
}

func TestMatchFilterByItsWords(t *testing.T) {
	from := drawn()
	told := map[int]int{}
	for range 30000 {
		s, e := drawnSchema(from), drawnEntry(from)
		f := drawnTree(from, 1+from.Intn(4), func() impl.FilterNode { return filterLeaf(from) })
		want := -1
		if goodFilterByWords(f) {
			want = matchByWords(s, e, f)
		}
		if got := impl.MatchFilter(s, e, f); got != want {
			t.Fatalf("MatchFilter(%+v, %+v, %q): got %d, want %d", s, e, filterTextByWords(f), got, want)
		}
		told[want]++
	}
	for want := -1; want <= 2; want++ {
		if told[want] < 1000 {
			t.Errorf("filters that are answered %d: only %d were drawn", want, told[want])
		}
	}
}

func TestLeavesByTheirWords(t *testing.T) {
	texts := dirTexts()
	for syntax := impl.SynText; syntax <= impl.SynName; syntax++ {
		s := impl.DirSchema{Types: []impl.AttrType{{Name: "a", Syntax: syntax}, {Name: "class", Syntax: impl.SynExact}}}
		for _, value := range texts {
			e := entryOf(nameOf("a", "x"), "a="+value)
			for _, text := range texts {
				for kind := impl.FilterEqual; kind <= impl.FilterLike; kind++ {
					f := filterOf(leafNode(kind, "a", text))
					if kind == impl.FilterHas {
						f[0].Text = ""
					}
					want := -1
					if goodFilterByWords(f) {
						want = matchByWords(s, e, f)
					}
					if got := impl.MatchFilter(s, e, f); got != want {
						t.Errorf("syntax %d, value %q, filter %+v: got %d, want %d", syntax, value, f, got, want)
					}
				}
			}
			e = entryOf(nameOf("a", value), "a=A|a|"+value)
			slices.Sort(e.Attrs[0].Values)
			e.Attrs[0].Values = slices.Compact(e.Attrs[0].Values)
			if got, want := impl.EntryFaults(s, e), faultsByWords(s, e); !slices.Equal(got, want) {
				t.Errorf("syntax %d, value %q: got %v, want %v", syntax, value, got, want)
			}
		}
	}
}

func TestMatchFilterOfNoGoodOnes(t *testing.T) {
	all := filterOf(andNode(0))
	for _, s := range badSchemas() {
		if got := impl.MatchFilter(s, ann(), all); got != -1 {
			t.Errorf("MatchFilter with a bad schema: got %d", got)
		}
	}
	for _, e := range badEntries() {
		if got := impl.MatchFilter(dirSchema(), e, all); got != -1 {
			t.Errorf("MatchFilter with a bad entry: got %d", got)
		}
	}
	for _, f := range badFilters() {
		if got := impl.MatchFilter(dirSchema(), ann(), f); got != -1 {
			t.Errorf("MatchFilter(%.80v): got %d", f, got)
		}
	}
}

// staffEntries are entries below each other, three of them with an attribute `ref`.
func staffEntries() []impl.Entry {
	return []impl.Entry{
		entryOf(nameOf("o", "org"), "class=Top", "o=org"),
		entryOf(nameOf("ou", "lab", "o", "org"), "class=Top", "ou=lab"),
		entryOf(nameOf("cn", "Ann", "ou", "lab", "o", "org"), "class=Person", "cn=Ann"),
		entryOf(nameOf("cn", "Far", "ou", "lab", "o", "org"), "class=Top", "ref=x:there|y:then"),
		entryOf(nameOf("cn", "Bob", "o", "org"), "age=7", "class=Person", "cn=Bob"),
		entryOf(nameOf("ou", "off", "o", "org"), "class=Top", "ref=b"),
		entryOf(nameOf("o", "Org"), "class=Top", "ref=a"),
		entryOf(nameOf("cn", "x,o=org"), "class=Person", "cn=x,o=org"),
		entryOf(nameOf("o", "org", "o", "org"), "Ref=none", "class=Top"),
	}
}

func TestSearch(t *testing.T) {
	org, lab := nameOf("o", "org"), nameOf("ou", "lab", "o", "org")
	for _, c := range []struct {
		base   []impl.Part
		scope  int
		filter string
		found  []int
		refs   []string
	}{
		{org, impl.ScopeBase, "(&)", []int{0}, nil},
		{org, impl.ScopeOne, "(&)", []int{1, 4, 8}, []string{"b"}},
		{org, impl.ScopeAll, "(&)", []int{0, 1, 2, 4, 8}, []string{"x:there", "b"}},
		{org, impl.ScopeAll, "(|)", nil, []string{"x:there", "b"}},
		{org, impl.ScopeAll, "(hat=*)", nil, []string{"x:there", "b"}},
		{org, impl.ScopeAll, "(!(hat=*))", nil, []string{"x:there", "b"}},
		{org, impl.ScopeAll, "(class=Person)", []int{2, 4}, []string{"x:there", "b"}},
		{org, impl.ScopeAll, "(age>=7)", []int{4}, []string{"x:there", "b"}},
		{org, impl.ScopeOne, "(cn=ANN)", nil, []string{"b"}},
		{lab, impl.ScopeBase, "(cn=ANN)", nil, nil},
		{lab, impl.ScopeBase, "(&)", []int{1}, nil},
		{lab, impl.ScopeOne, "(cn=ANN)", []int{2}, []string{"x:there"}},
		{lab, impl.ScopeAll, "(class=*)", []int{1, 2}, []string{"x:there"}},
		{nil, impl.ScopeBase, "(&)", nil, nil},
		{nil, impl.ScopeOne, "(&)", []int{0, 7}, []string{"a"}},
		{nil, impl.ScopeAll, "(&)", []int{0, 1, 2, 4, 7, 8}, []string{"x:there", "b", "a"}},
		{nameOf("ou", "off", "o", "org"), impl.ScopeBase, "(|)", nil, []string{"b"}},
		{nameOf("ou", "off", "o", "org"), impl.ScopeOne, "(&)", nil, nil},
		{nameOf("ou", "off", "o", "org"), impl.ScopeAll, "(|)", nil, []string{"b"}},
		{nameOf("o", "none"), impl.ScopeAll, "(&)", nil, nil},
		{repeatedName("o", "org", impl.MaxParts), impl.ScopeAll, "(&)", nil, nil},
		{nameOf("O", "org"), impl.ScopeAll, "(&)", nil, nil},
		{nameOf("o", "Org"), impl.ScopeBase, "(&)", nil, []string{"a"}},
	} {
		found, refs := impl.Search(dirSchema(), staffEntries(), c.base, c.scope, impl.ReadFilter(c.filter).Nodes)
		if !slices.Equal(found, c.found) || !slices.Equal(refs, c.refs) {
			t.Errorf("Search below %q, scope %d, %s: got %v, %q", c.base, c.scope, c.filter, found, refs)
		}
	}
}

func TestSearchByItsWords(t *testing.T) {
	from := drawn()
	parts := nameOf("o", "a", "o", "A", "cn", "a", "cn", "a,o=a")
	told, met := 0, 0
	for range 5000 {
		var entries []impl.Entry
		taken := map[string]int{}
		for range from.Intn(12) {
			e := drawnEntry(from)
			e.Name = nil
			for range 1 + from.Intn(3) {
				e.Name = append(e.Name, oneOf(from, parts))
			}
			if text := nameTextByWords(e.Name); taken[text] == 0 {
				taken[text]++
				entries = append(entries, e)
			}
		}
		var base []impl.Part
		for range from.Intn(3) {
			base = append(base, oneOf(from, parts))
		}
		s, scope := drawnSchema(from), 1+from.Intn(3)
		f := drawnTree(from, 1+from.Intn(3), func() impl.FilterNode {
			return oneOf(from, filterOf(hasNode("cn"), hasNode("code"), leafNode(impl.FilterLeast, "age", "1"), leafNode(impl.FilterMost, "key", "A")))
		})
		found, refs := impl.Search(s, entries, base, scope, f)
		wantFound, wantRefs := searchByWords(s, entries, base, scope, f)
		if !slices.Equal(found, wantFound) || !slices.Equal(refs, wantRefs) {
			t.Fatalf("Search of %+v below %q, scope %d, %q: got %v, %q, want %v, %q", entries, base, scope, filterTextByWords(f), found, refs, wantFound, wantRefs)
		}
		told += len(refs)
		met += len(found)
	}
	if told < 500 || met < 500 {
		t.Errorf("only %d refs and %d entries were found", told, met)
	}
}

// countedEntries are so many entries with one part each.
func countedEntries(many int) []impl.Entry {
	var entries []impl.Entry
	for i := range many {
		entries = append(entries, entryOf(nameOf("cn", strconv.Itoa(i)), "class=Top"))
	}
	return entries
}

func TestSearchAtItsLimits(t *testing.T) {
	all := filterOf(andNode(0))
	found, refs := impl.Search(dirSchema(), countedEntries(impl.MaxEntries), nil, impl.ScopeAll, all)
	if len(found) != impl.MaxEntries || !slices.IsSorted(found) || len(refs) != 0 {
		t.Errorf("Search of MaxEntries: got %v, %v", found, refs)
	}
	alike := append(staffEntries(), entryOf(nameOf("cn", "Far", "ou", "lab", "o", "org"), "x=y"))
	apart := append(staffEntries(), entryOf(nameOf("cn", "far", "ou", "lab", "o", "org"), "x=y"))
	if found, _ := impl.Search(dirSchema(), apart, nil, impl.ScopeAll, all); len(found) != 7 {
		t.Errorf("Search of names that are unlike by a letter's case: got %v", found)
	}
	wrong := [][]impl.Entry{countedEntries(impl.MaxEntries + 1), make([]impl.Entry, 3000), alike, slices.Repeat(staffEntries(), 2)}
	for _, e := range badEntries() {
		wrong = append(wrong, append(staffEntries(), e), append([]impl.Entry{e}, staffEntries()...))
	}
	for i, entries := range wrong {
		if found, refs := impl.Search(dirSchema(), entries, nil, impl.ScopeAll, all); len(found) != 0 || len(refs) != 0 {
			t.Errorf("Search of wrong entries %d: got %v, %v", i, found, refs)
		}
	}
}

func TestSearchOfNoGoodOnes(t *testing.T) {
	all := filterOf(andNode(0))
	ask := func(s impl.DirSchema, base []impl.Part, scope int, f []impl.FilterNode) {
		if found, refs := impl.Search(s, staffEntries(), base, scope, f); len(found) != 0 || len(refs) != 0 {
			t.Errorf("Search with a wrong argument: got %v, %v", found, refs)
		}
	}
	for _, s := range badSchemas() {
		ask(s, nil, impl.ScopeAll, all)
	}
	for _, base := range badNames() {
		ask(dirSchema(), base, impl.ScopeAll, all)
		ask(dirSchema(), base, impl.ScopeBase, all)
	}
	for _, scope := range []int{0, 4, -1, 5, math.MinInt, math.MaxInt} {
		ask(dirSchema(), nil, scope, all)
		ask(dirSchema(), nameOf("o", "org"), scope, all)
	}
	for _, f := range badFilters() {
		ask(dirSchema(), nil, impl.ScopeAll, f)
	}
}
