package tests

import (
	"math"
	"slices"
	"strconv"
	"strings"

	"loop.example/g00036/impl"
)

// toldName is a directory name and the text that the document gives it.
type toldName struct {
	name []impl.Part
	text string
}

func nameOf(parts ...string) []impl.Part {
	var name []impl.Part
	for i := 0; i+1 < len(parts); i += 2 {
		name = append(name, impl.Part{Attr: parts[i], Text: parts[i+1]})
	}
	return name
}

// repeatedName has so many parts that are alike.
func repeatedName(attr string, text string, many int) []impl.Part {
	return slices.Repeat(nameOf(attr, text), many)
}

func goodNames() []toldName {
	long := strings.Repeat("N", impl.MaxName)
	printed := printedBytes()
	return []toldName{
		{nil, ""},
		{[]impl.Part{}, ""},
		{nameOf("cn", "a"), "cn=a"},
		{nameOf("_", " "), "_= "},
		{nameOf("a9", "~"), "a9=~"},
		{nameOf("cn", "="), "cn=="},
		{nameOf("cn", ","), "cn=\\,"},
		{nameOf("cn", "\\"), "cn=\\\\"},
		{nameOf("cn", ",a"), "cn=\\,a"},
		{nameOf("cn", "\\a"), "cn=\\\\a"},
		{nameOf("cn", "a,"), "cn=a\\,"},
		{nameOf("cn", "a\\"), "cn=a\\\\"},
		{nameOf("cn", "a,b"), "cn=a\\,b"},
		{nameOf("cn", "a\\b"), "cn=a\\\\b"},
		{nameOf("cn", "\\,"), "cn=\\\\\\,"},
		{nameOf("cn", ",\\"), "cn=\\,\\\\"},
		{nameOf("cn", "a,o=b"), "cn=a\\,o=b"},
		{nameOf("cn", "a", "o", "b"), "cn=a,o=b"},
		{nameOf("cn", "a\\", "o", "b"), "cn=a\\\\,o=b"},
		{nameOf("cn", ",", "o", ","), "cn=\\,,o=\\,"},
		{nameOf("cn", "(*)~!&|"), "cn=(*)~!&|"},
		{nameOf("cn", "a", "cn", "a", "cn", "a"), "cn=a,cn=a,cn=a"},
		{nameOf(long, strings.Repeat("x", 60)), long + "=" + strings.Repeat("x", 60)},
		{nameOf(long, strings.Repeat(",", 60)), long + "=" + strings.Repeat("\\,", 60)},
		{repeatedName(long, strings.Repeat("\\", 60), impl.MaxParts), strings.Repeat(","+long+"="+strings.Repeat("\\\\", 60), impl.MaxParts)[1:]},
		{nameOf("a", printed[:45], "b", printed[45:]), "a=" + strings.ReplaceAll(printed[:45], ",", "\\,") + ",b=" + strings.ReplaceAll(printed[45:], "\\", "\\\\")},
	}
}

func badNames() [][]impl.Part {
	bad := [][]impl.Part{
		repeatedName("cn", "a", impl.MaxParts+1),
		repeatedName("cn", "a", 3000),
		make([]impl.Part, 1),
		make([]impl.Part, 3000),
		nameOf("", "a"),
		nameOf("9", "a"),
		nameOf("c n", "a"),
		nameOf("c=n", "a"),
		nameOf("c,n", "a"),
		nameOf("*", "a"),
		nameOf("cn\n", "a"),
		nameOf(strings.Repeat("N", impl.MaxName+1), "a"),
		nameOf("cn", ""),
		nameOf("cn", strings.Repeat("x", 61)),
		nameOf("cn", strings.Repeat("x", impl.MaxText+1)),
		nameOf("cn", "a\n"),
		nameOf("cn", "\x1f"),
		nameOf("cn", "\x7f"),
		nameOf("cn", "\x00"),
		nameOf("cn", "é"),
		nameOf("cn", "a", "o", ""),
		nameOf("", "a", "o", "b"),
		nameOf("cn", "a", "ou", "\t", "o", "b"),
	}
	return append(bad, append(repeatedName("cn", "a", impl.MaxParts-1), impl.Part{Attr: "o"}))
}

// badNameTexts are texts that no name has.
func badNameTexts() []string {
	return []string{
		" ", "cn", "=", "=a", "cn=", "cn=a,", ",cn=a", ",", ",,", "cn=a,,o=b", "cn=a,o", "cn=a,o=", "cn=a,=b", "cn=,o=b",
		"cn=\\", "cn=a\\", "cn=\\a", "cn=a\\b", "cn=\\=", "cn=\\\\\\", "cn=a\\,,", "\\", "\\cn=a", "cn\\=a", "cn=a\\\\,o=",
		" cn=a", "cn =a", "cn=a, o=b", "9=a", "c-n=a", "cn=a\n", "cn=\x7f", "cn=\x00", "cn=é", "cn=a\\ ", "é=a",
		strings.Repeat("N", impl.MaxName+1) + "=a", "cn=" + strings.Repeat("x", 61), "cn=" + strings.Repeat("\\,", 61),
		strings.Repeat(",cn=a", impl.MaxParts+1)[1:], strings.Repeat("cn=a,", impl.MaxParts), strings.Repeat(",cn=a", 3000)[1:],
	}
}

// dirSchema has a type of each syntax, with and without Single, and classes above each other.
func dirSchema() impl.DirSchema {
	return impl.DirSchema{
		Types: []impl.AttrType{
			{Name: "age", Syntax: impl.SynNum, Single: true},
			{Name: "boss", Syntax: impl.SynName},
			{Name: "class", Syntax: impl.SynExact},
			{Name: "cn", Syntax: impl.SynText},
			{Name: "code", Syntax: impl.SynExact},
			{Name: "home", Syntax: impl.SynName, Single: true},
			{Name: "key", Syntax: impl.SynExact, Single: true},
			{Name: "nick", Syntax: impl.SynText, Single: true},
			{Name: "rank", Syntax: impl.SynNum},
			{Name: "ref", Syntax: impl.SynText},
		},
		Classes: []impl.Class{
			{Name: "Chief", Up: "Staff", Must: []string{"code", "rank"}, May: []string{"home"}},
			{Name: "Person", Up: "Top", Must: []string{"cn"}, May: []string{"age", "nick"}},
			{Name: "Robot", Must: []string{"key"}, May: []string{"class", "key"}},
			{Name: "Staff", Up: "Person", Must: []string{"boss"}, May: []string{"boss", "code"}},
			{Name: "Top"},
		},
	}
}

// countedTypes are so many types, `class` among them.
func countedTypes(many int) []impl.AttrType {
	types := []impl.AttrType{{Name: "class", Syntax: impl.SynExact}}
	for _, name := range countedNames(many - 1) {
		types = append(types, impl.AttrType{Name: "t" + name, Syntax: impl.SynText})
	}
	return types
}

func typeNames(types []impl.AttrType) []string {
	var names []string
	for _, t := range types {
		names = append(names, t.Name)
	}
	return names
}

// chainedClasses are so many classes, each with the one ahead of it as its Up.
func chainedClasses(many int) []impl.Class {
	var classes []impl.Class
	up := ""
	for _, name := range countedNames(many) {
		classes = append(classes, impl.Class{Name: name, Up: up})
		up = name
	}
	return classes
}

func goodSchemas() []impl.DirSchema {
	wide := countedTypes(impl.MaxTypes)
	full := impl.DirSchema{Types: wide, Classes: chainedClasses(impl.MaxClasses)}
	for i := range full.Classes {
		full.Classes[i].Must = typeNames(wide[:impl.MaxAttrs])
		full.Classes[i].May = typeNames(wide[len(wide)-impl.MaxAttrs:])
	}
	downward := chainedClasses(impl.MaxClasses)
	for i := range downward {
		downward[i].Up = ""
		if i+1 < len(downward) {
			downward[i].Up = downward[i+1].Name
		}
	}
	long := strings.Repeat("N", impl.MaxName)
	return []impl.DirSchema{
		dirSchema(),
		{Types: countedTypes(1)},
		{Types: countedTypes(1), Classes: []impl.Class{}},
		full,
		{Types: wide, Classes: downward},
		{
			Types:   []impl.AttrType{{Name: long, Syntax: impl.SynName}, {Name: "class", Syntax: impl.SynExact}},
			Classes: []impl.Class{{Name: long, Must: []string{long, "class"}, May: []string{}}},
		},
	}
}

// changedSchema is the schema with something done to it.
func changedSchema(change func(s *impl.DirSchema)) impl.DirSchema {
	s := dirSchema()
	change(&s)
	return s
}

// badTypeSchemas are not good by their Types.
func badTypeSchemas() []impl.DirSchema {
	bad := []impl.DirSchema{
		{},
		{Types: countedTypes(impl.MaxTypes + 1)},
		{Types: make([]impl.AttrType, 3000)},
		{Types: []impl.AttrType{{Name: "cn", Syntax: impl.SynText}}},
		{Types: []impl.AttrType{{Name: "Class", Syntax: impl.SynExact}}},
		changedSchema(func(s *impl.DirSchema) { s.Types[2].Single = true }),
		changedSchema(func(s *impl.DirSchema) { s.Types[0], s.Types[1] = s.Types[1], s.Types[0] }),
		changedSchema(func(s *impl.DirSchema) { s.Types[8], s.Types[9] = s.Types[9], s.Types[8] }),
		changedSchema(func(s *impl.DirSchema) { s.Types[9] = s.Types[8] }),
		changedSchema(func(s *impl.DirSchema) { s.Types = slices.Insert(s.Types, 2, s.Types[2]) }),
		changedSchema(func(s *impl.DirSchema) { s.Types = slices.Insert(s.Types, 0, impl.AttrType{Syntax: 1}) }),
	}
	for _, name := range []string{"9", "a-b", "a ", "\x00", "é", strings.Repeat("A", impl.MaxName+1)} {
		types := append(countedTypes(1), impl.AttrType{Name: name, Syntax: 1})
		slices.SortFunc(types, func(a, b impl.AttrType) int { return strings.Compare(a.Name, b.Name) })
		bad = append(bad, impl.DirSchema{Types: types})
	}
	for _, syntax := range []int{0, impl.SynText, impl.SynNum, impl.SynName, 5} {
		bad = append(bad, changedSchema(func(s *impl.DirSchema) { s.Types[2].Syntax = syntax }))
	}
	for _, syntax := range []int{0, 5, -1, 6, math.MinInt, math.MaxInt} {
		bad = append(bad, changedSchema(func(s *impl.DirSchema) { s.Types[0].Syntax = syntax }))
		bad = append(bad, changedSchema(func(s *impl.DirSchema) { s.Types[9].Syntax = syntax }))
	}
	return bad
}

// badClassSchemas are not good by their Classes.
func badClassSchemas() []impl.DirSchema {
	wide := countedTypes(impl.MaxTypes)
	over := typeNames(wide[:impl.MaxAttrs+1])
	round := chainedClasses(impl.MaxClasses)
	round[0].Up = round[len(round)-1].Name
	tail := chainedClasses(4)
	tail[0].Up = tail[1].Name
	bad := []impl.DirSchema{
		{Types: wide, Classes: chainedClasses(impl.MaxClasses + 1)},
		{Types: wide, Classes: make([]impl.Class, 3000)},
		{Types: wide, Classes: round},
		{Types: wide, Classes: tail},
		{Types: wide, Classes: []impl.Class{{Name: "A", Must: over}}},
		{Types: wide, Classes: []impl.Class{{Name: "A", May: over}}},
		{Types: wide, Classes: []impl.Class{{Name: "A"}, {Name: "B", Must: make([]string, 3000)}}},
		changedSchema(func(s *impl.DirSchema) { s.Classes[0], s.Classes[1] = s.Classes[1], s.Classes[0] }),
		changedSchema(func(s *impl.DirSchema) { s.Classes[3], s.Classes[4] = s.Classes[4], s.Classes[3] }),
		changedSchema(func(s *impl.DirSchema) { s.Classes = append(s.Classes, s.Classes[4]) }),
		changedSchema(func(s *impl.DirSchema) { s.Classes[4].Up = "Top" }),
		changedSchema(func(s *impl.DirSchema) { s.Classes[4].Up = "Person" }),
		changedSchema(func(s *impl.DirSchema) { s.Classes[4].Up = "Chief" }),
		changedSchema(func(s *impl.DirSchema) { s.Classes[4].Up = "top" }),
		changedSchema(func(s *impl.DirSchema) { s.Classes[2].Up = "cn" }),
		changedSchema(func(s *impl.DirSchema) { s.Classes[2].Up = " " }),
		changedSchema(func(s *impl.DirSchema) { s.Classes[2].Up = "Robot" }),
	}
	for _, name := range []string{"", "9", "T p", "\xff", strings.Repeat("T", impl.MaxName+1)} {
		bad = append(bad, impl.DirSchema{Types: countedTypes(1), Classes: []impl.Class{{Name: name}}})
	}
	for _, list := range [][]string{{"hat"}, {""}, {"Top"}, {"cn", "age"}, {"cn", "cn"}, {"age", "hat"}, {"age", "code", "cn"}} {
		bad = append(bad, changedSchema(func(s *impl.DirSchema) { s.Classes[1].Must = list }))
		bad = append(bad, changedSchema(func(s *impl.DirSchema) { s.Classes[4].May = list }))
	}
	return bad
}

func badSchemas() []impl.DirSchema {
	return append(badTypeSchemas(), badClassSchemas()...)
}

// entryOf takes each attribute as its name, `=` and its values with `|` between.
func entryOf(name []impl.Part, attrs ...string) impl.Entry {
	e := impl.Entry{Name: name}
	for _, told := range attrs {
		attr, values, _ := strings.Cut(told, "=")
		e.Attrs = append(e.Attrs, impl.Attr{Name: attr, Values: strings.Split(values, "|")})
	}
	return e
}

// countedTexts are so many texts of three bytes, rising.
func countedTexts(many int) []string {
	var list []string
	for i := range many {
		list = append(list, strconv.Itoa(1000 + i)[1:])
	}
	return list
}

func countedAttrs(many int) []impl.Attr {
	var attrs []impl.Attr
	for _, name := range countedNames(many) {
		attrs = append(attrs, impl.Attr{Name: name, Values: []string{"1"}})
	}
	return attrs
}

func goodEntries() []impl.Entry {
	long := strings.Repeat("N", impl.MaxName)
	return []impl.Entry{
		entryOf(nameOf("cn", "Ann"), "age=7", "class=Person", "cn=Ann"),
		entryOf(nameOf("cn", "ann", "o", "org"), "boss=cn=Bob,o=org", "class=Person|Staff", "cn=ANN|Ann", "code=x"),
		entryOf(nameOf("key", "k1"), "age=7", "class=Robot", "key=K1|k1", "nick=r"),
		entryOf(nameOf("x", "y"), "y=x"),
		entryOf(nameOf("rank", "10"), "class=Chief", "rank=-3|10|9|x"),
		entryOf(repeatedName("cn", "a", impl.MaxParts), "cn=a"),
		{Name: nameOf(long, "a"), Attrs: []impl.Attr{{Name: long, Values: []string{strings.Repeat("v", impl.MaxText)}}}},
		{Name: nameOf("a", "1"), Attrs: countedAttrs(impl.MaxAttrs)},
		{Name: nameOf("a", "000"), Attrs: []impl.Attr{{Name: "a", Values: countedTexts(impl.MaxValues)}}},
	}
}

func changedEntry(change func(e *impl.Entry)) impl.Entry {
	e := goodEntries()[1]
	change(&e)
	return e
}

func badEntries() []impl.Entry {
	bad := []impl.Entry{
		{},
		{Name: nameOf("a", "1")},
		{Attrs: countedAttrs(1)},
		{Name: nameOf("a", "1"), Attrs: countedAttrs(impl.MaxAttrs + 1)},
		{Name: nameOf("a", "1"), Attrs: make([]impl.Attr, 3000)},
		{Name: nameOf("a", "1"), Attrs: []impl.Attr{{Name: "a", Values: countedTexts(impl.MaxValues + 1)}}},
		{Name: nameOf("a", "1"), Attrs: []impl.Attr{{Name: "a", Values: make([]string, 3000)}}},
		changedEntry(func(e *impl.Entry) { e.Attrs[0], e.Attrs[1] = e.Attrs[1], e.Attrs[0] }),
		changedEntry(func(e *impl.Entry) { e.Attrs[2], e.Attrs[3] = e.Attrs[3], e.Attrs[2] }),
		changedEntry(func(e *impl.Entry) { e.Attrs[3] = e.Attrs[2] }),
		changedEntry(func(e *impl.Entry) { slices.Reverse(e.Attrs[2].Values) }),
		changedEntry(func(e *impl.Entry) { e.Attrs[2].Values[0] = e.Attrs[2].Values[1] }),
		changedEntry(func(e *impl.Entry) { e.Attrs[3].Values = nil }),
		changedEntry(func(e *impl.Entry) { e.Attrs[0].Values = []string{} }),
	}
	for _, name := range badNames() {
		bad = append(bad, impl.Entry{Name: name, Attrs: countedAttrs(1)})
	}
	for _, name := range []string{"", "9", "c n", "cn=", "cn\x00", strings.Repeat("c", impl.MaxName+1)} {
		bad = append(bad, impl.Entry{Name: nameOf("a", "1"), Attrs: []impl.Attr{{Name: name, Values: []string{"1"}}}})
	}
	for _, value := range []string{"", "\n", "a\x7f", "\xff", "é", strings.Repeat("z", impl.MaxText+1)} {
		bad = append(bad, impl.Entry{Name: nameOf("a", "1"), Attrs: []impl.Attr{{Name: "a", Values: []string{value}}}})
	}
	return append(bad, entryOf(nameOf("a", "1"), "a=1|"+strings.Repeat("z", impl.MaxText+1)), entryOf(nameOf("a", "1"), "a=1|2\t"))
}

func andNode(kids int) impl.FilterNode {
	return impl.FilterNode{Kind: impl.FilterAnd, Kids: kids}
}

func orNode(kids int) impl.FilterNode {
	return impl.FilterNode{Kind: impl.FilterOr, Kids: kids}
}

func notNode() impl.FilterNode {
	return impl.FilterNode{Kind: impl.FilterNot, Kids: 1}
}

func hasNode(attr string) impl.FilterNode {
	return impl.FilterNode{Kind: impl.FilterHas, Attr: attr}
}

// leafNode is a node of a kind that has a Text.
func leafNode(kind int, attr string, text string) impl.FilterNode {
	return impl.FilterNode{Kind: kind, Attr: attr, Text: text}
}

func filterOf(nodes ...impl.FilterNode) []impl.FilterNode {
	return nodes
}

// toldFilter is a filter and the text that the document gives it.
type toldFilter struct {
	nodes []impl.FilterNode
	text  string
}

// manyHas are so many nodes that have no kids.
func manyHas(many int) []impl.FilterNode {
	return slices.Repeat(filterOf(hasNode("a")), many)
}

// nestedNots is a node that has no kids within so many others.
func nestedNots(many int) []impl.FilterNode {
	return append(slices.Repeat(filterOf(notNode()), many), hasNode("a"))
}

// broadFilter has so many nodes in all, from 42 to 62.
func broadFilter(many int) []impl.FilterNode {
	return slices.Concat(filterOf(andNode(3), orNode(20)), manyHas(20), filterOf(andNode(18)), manyHas(18), filterOf(orNode(many-42)), manyHas(many-42))
}

// longFilter is a good filter whose text would have so many bytes, from 824 to 1023.
func longFilter(length int) []impl.FilterNode {
	full := leafNode(impl.FilterEqual, "a", strings.Repeat("x", impl.MaxText))
	last := leafNode(impl.FilterEqual, "a", strings.Repeat("x", length-823))
	return filterOf(andNode(5), full, full, full, full, last)
}

func goodFilters() []toldFilter {
	name := strings.Repeat("N", impl.MaxName)
	long := strings.Repeat("x", impl.MaxText)
	all := []toldFilter{
		{filterOf(andNode(0)), "(&)"},
		{filterOf(orNode(0)), "(|)"},
		{filterOf(notNode(), andNode(0)), "(!(&))"},
		{filterOf(hasNode("_")), "(_=*)"},
		{filterOf(hasNode(name)), "(" + name + "=*)"},
		{filterOf(andNode(1), orNode(1), notNode(), hasNode("a1")), "(&(|(!(a1=*))))"},
		{filterOf(andNode(2), hasNode("a"), orNode(2), hasNode("b"), hasNode("c")), "(&(a=*)(|(b=*)(c=*)))"},
		{filterOf(orNode(2), andNode(0), andNode(0)), "(|(&)(&))"},
		{nestedNots(19), strings.Repeat("(!", 19) + "(a=*)" + strings.Repeat(")", 19)},
		{append(filterOf(orNode(20)), manyHas(20)...), "(|" + strings.Repeat("(a=*)", 20) + ")"},
		{append(filterOf(andNode(20)), manyHas(20)...), "(&" + strings.Repeat("(a=*)", 20) + ")"},
		{broadFilter(impl.MaxNodes), "(&(|" + strings.Repeat("(a=*)", 20) + ")(&" + strings.Repeat("(a=*)", 18) + ")(|" + strings.Repeat("(a=*)", 18) + "))"},
		{filterOf(leafNode(impl.FilterLike, "a", "*")), "(a=~*)"},
		{filterOf(leafNode(impl.FilterLike, "a", "~")), "(a=~~)"},
		{filterOf(leafNode(impl.FilterLike, "a", "\\*")), "(a=~\\\\*)"},
		{filterOf(leafNode(impl.FilterLike, "a", "\\\\")), "(a=~\\\\\\\\)"},
		{filterOf(leafNode(impl.FilterLike, "a", "(*)")), "(a=~\\(*\\))"},
		{filterOf(leafNode(impl.FilterLike, "a", long)), "(a=~" + long + ")"},
		{filterOf(leafNode(impl.FilterLike, "a", strings.Repeat("*", impl.MaxText))), "(a=~" + strings.Repeat("*", impl.MaxText) + ")"},
	}
	for kind, sign := range map[int]string{impl.FilterEqual: "=", impl.FilterLeast: ">=", impl.FilterMost: "<="} {
		for text, want := range toldTexts() {
			all = append(all, toldFilter{filterOf(leafNode(kind, "a", text)), "(a" + sign + want + ")"})
		}
		all = append(all, toldFilter{filterOf(leafNode(kind, name, long)), "(" + name + sign + long + ")"})
		all = append(all, toldFilter{filterOf(leafNode(kind, "a", strings.Repeat("(", impl.MaxText))), "(a" + sign + strings.Repeat("\\(", impl.MaxText) + ")"})
	}
	return all
}

// toldTexts are Texts, of no FilterLike, and how they are told.
func toldTexts() map[string]string {
	printed := strings.NewReplacer("\\", "\\\\", "(", "\\(", ")", "\\)").Replace(printedBytes())
	return map[string]string{
		"b": "b", " ": " ", "=": "=", ">": ">", "!": "!", "&": "&", "|": "|", "=*": "=*", "=~x": "=~x",
		"*": "\\*", "~": "\\~", "**": "\\**", "~~": "\\~~", "*~": "\\*~", "~*": "\\~*", "*b": "\\*b", "~b": "\\~b",
		"b*": "b*", "b~": "b~", "b*c": "b*c", "b~c": "b~c",
		"(": "\\(", ")": "\\)", "\\": "\\\\", "(b": "\\(b", ")b": "\\)b", "\\b": "\\\\b", "b(": "b\\(", "b)": "b\\)", "b\\": "b\\\\",
		"b(c": "b\\(c", "b)c": "b\\)c", "b\\c": "b\\\\c", "\\*": "\\\\*", "\\~": "\\\\~", "*(": "\\*\\(", "*\\": "\\*\\\\", "(*": "\\(*", "()": "\\(\\)",
		",": ",", "b,": "b,", printedBytes(): printed,
	}
}

// badNodes are not good, whatever stands behind them.
func badNodes() []impl.FilterNode {
	long := strings.Repeat("x", impl.MaxText+1)
	bad := []impl.FilterNode{
		{}, {Kind: -1}, {Kind: 9}, {Kind: math.MinInt}, {Kind: math.MaxInt, Attr: "a"}, {Kind: 0, Attr: "a", Text: "b"}, {Kind: 9, Kids: 1},
		{Kind: impl.FilterNot}, {Kind: impl.FilterNot, Kids: 2}, {Kind: impl.FilterNot, Kids: -1}, {Kind: impl.FilterNot, Kids: 1, Attr: "a"}, {Kind: impl.FilterNot, Kids: 1, Text: "b"},
		{Kind: impl.FilterHas}, {Kind: impl.FilterHas, Attr: "a", Text: "b"}, {Kind: impl.FilterHas, Attr: "a", Text: "*"},
		leafNode(impl.FilterLike, "a", "\\"), leafNode(impl.FilterLike, "a", "b\\c"), leafNode(impl.FilterLike, "a", "*\\"), leafNode(impl.FilterLike, "a", "\\("), leafNode(impl.FilterLike, "a", "\\\\\\"),
	}
	for _, kind := range []int{impl.FilterAnd, impl.FilterOr} {
		for _, kids := range []int{-1, 21, 60, math.MinInt, math.MaxInt} {
			bad = append(bad, impl.FilterNode{Kind: kind, Kids: kids})
		}
		bad = append(bad, impl.FilterNode{Kind: kind, Attr: "a"}, impl.FilterNode{Kind: kind, Text: "b"})
	}
	for _, kind := range []int{impl.FilterEqual, impl.FilterLeast, impl.FilterMost, impl.FilterLike} {
		for _, text := range []string{"", long, "\n", "b\x7f", "\x1f", "é", "\xff", "\x00"} {
			bad = append(bad, leafNode(kind, "a", text))
		}
	}
	for _, kind := range []int{impl.FilterEqual, impl.FilterLeast, impl.FilterMost, impl.FilterLike, impl.FilterHas} {
		text := "b"
		if kind == impl.FilterHas {
			text = ""
		}
		for _, attr := range []string{"", "9", "a b", "a=", "é", "a\x00", strings.Repeat("a", impl.MaxName+1)} {
			bad = append(bad, leafNode(kind, attr, text))
		}
		for _, kids := range []int{1, -1, 20, math.MinInt, math.MaxInt} {
			bad = append(bad, impl.FilterNode{Kind: kind, Attr: "a", Text: text, Kids: kids})
		}
	}
	return bad
}

func badFilters() [][]impl.FilterNode {
	bad := [][]impl.FilterNode{
		nil,
		{},
		manyHas(2),
		manyHas(3000),
		slices.Repeat(filterOf(notNode()), 3000),
		slices.Repeat(filterOf(andNode(20)), 3000),
		nestedNots(20),
		append(filterOf(orNode(2), hasNode("a")), nestedNots(19)...),
		append(filterOf(orNode(21)), manyHas(21)...),
		append(filterOf(andNode(21)), manyHas(21)...),
		broadFilter(impl.MaxNodes + 1),
		filterOf(andNode(1)),
		filterOf(orNode(20)),
		filterOf(andNode(2), hasNode("a")),
		filterOf(orNode(1), hasNode("a"), hasNode("a")),
		filterOf(andNode(0), hasNode("a")),
		filterOf(notNode()),
		filterOf(notNode(), hasNode("a"), hasNode("a")),
		filterOf(notNode(), notNode()),
		filterOf(hasNode("a"), andNode(0)),
	}
	for _, n := range badNodes() {
		bad = append(bad, filterOf(n), filterOf(n, hasNode("a")), filterOf(notNode(), n), filterOf(andNode(2), hasNode("a"), n), filterOf(orNode(2), n, hasNode("a")))
	}
	return bad
}

// badFilterTexts are texts that are no good filter's, with the Err and the At that the document asks for.
func badFilterTexts() map[string]struct{ err, at int } {
	bad := map[string]struct{ err, at int }{}
	for text, at := range wrongBytes() {
		bad[text] = struct{ err, at int }{2, at}
	}
	long := strings.Repeat("x", impl.MaxText+1)
	name := strings.Repeat("N", impl.MaxName+1)
	for _, text := range []string{
		"(" + name + "=*)", "(" + name + "=b)", "(" + strings.Repeat("a", 900) + "=~b)", "(a=" + long + ")", "(a=~" + long + ")", "(a>=" + long + ")", "(a<=" + long + ")",
		"(a=~\\\\)", "(a=~b\\\\c)", "(a=~\\\\\\()", "(a=~\\\\\\\\\\\\)", "(a=\\\\" + long + ")",
		"(|" + strings.Repeat("(a=*)", 21) + ")", "(&" + strings.Repeat("(a=*)", 21) + ")", "(&" + strings.Repeat("(a=*)", 199) + ")",
		strings.Repeat("(!", 20) + "(a=*)" + strings.Repeat(")", 20), strings.Repeat("(&", 21) + strings.Repeat(")", 21), strings.Repeat("(|", 333) + strings.Repeat(")", 333),
		"(&(|" + strings.Repeat("(&)", 20) + ")(&" + strings.Repeat("(&)", 18) + ")(|" + strings.Repeat("(&)", 19) + "))",
		"(&" + strings.Repeat("(&"+strings.Repeat("(&)", 15)+")", 20) + ")",
	} {
		bad[text] = struct{ err, at int }{3, 0}
	}
	for _, text := range []string{strings.Repeat("(", 1001), strings.Repeat("x", 1001), "(a=" + strings.Repeat("b", 997) + ")", strings.Repeat("\x00", 1<<20)} {
		bad[text] = struct{ err, at int }{1, 0}
	}
	return bad
}

// wrongBytes are texts with the place of the first byte that may not come there.
func wrongBytes() map[string]int {
	return map[string]int{
		"": 0, "a": 0, ")": 0, " (a=b)": 0, "\x00": 0, "&": 0,
		"(": 1, "()": 1, "((a=b))": 1, "(=b)": 1, "(9=b)": 1, "( a=b)": 1, "(*)": 1, "(\xff": 1, "(\\a=b)": 1,
		"(&": 2, "(|": 2, "(!": 2, "(!)": 2, "(&a)": 2, "(&!": 2, "(!!": 2, "(! (a=b))": 2, "(a": 2, "(a)": 2, "(a b)": 2, "(a~=b)": 2, "(a-": 2, "(a(": 2, "(a\\": 2, "(a\x00": 2,
		"(ab": 3, "(ab)": 3, "(a1_Z:": 5, "(a>": 3, "(a>b)": 3, "(a<)": 3, "(a<>=b)": 3, "(a>>=b)": 3, "(a> =b)": 3,
		"(a=": 3, "(a=)": 3, "(a=(": 3, "(a=\n)": 3, "(a=\x7f)": 3, "(a=\xff)": 3, "(a=\\": 4, "(a=\\a)": 3, "(a=\\ )": 3, "(a=\\\x00": 3, "(a=\\&": 3, "(a=\\=)": 3,
		"(a=*": 4, "(a=*b)": 4, "(a=**)": 4, "(a=*\\)": 4, "(a=*(": 4, "(a=*\x00": 4,
		"(a=~": 4, "(a=~)": 4, "(a=~(": 4, "(a=~\x1f": 4, "(a=~\\": 5, "(a=~\\*)": 4, "(a=~\\~)": 4, "(a=~\\b)": 4, "(a=~*": 5, "(a=~~": 5, "(a=~b\\*)": 5, "(a=~b(": 5, "(a=~~(": 5,
		"(a>=": 4, "(a<=": 4, "(a>=)": 4, "(a<=)": 4, "(a>=(": 4, "(a>=*)": 4, "(a<=*b)": 4, "(a>=~)": 4, "(a<=~b)": 4, "(a>=\\": 5, "(a>=\\b)": 4, "(a<=\t": 4, "(a>=\\*": 6, "(a>==": 5,
		"(a=b": 4, "(a=b(": 4, "(a=b\\": 5, "(a=b\\b)": 4, "(a=b\\*)": 4, "(a=b\\~)": 4, "(a=b\n": 4, "(a=b\x80)": 4, "(a=\\)": 5, "(a=\\(": 5, "(a=\\\\": 5, "(a=\\*\\*)": 5, "(a=\\~\\~)": 5, "(a=\\*(": 5,
		"(a=\\(\\*)": 5, "(a=\\\\\\*)": 5, "(a=\\*": 5, "(a>=b": 5, "(a<=bc": 6,
		"(a=b)c": 5, "(a=b) ": 5, "(a=b))": 5, "(a=b)(": 5, "(a=*)*": 5, "(&))": 3, "(&)(&)": 3, "(|)\x00": 3,
		"(!(a=b)": 7, "(!(a=b)(c=d))": 7, "(!(a=b)x)": 7, "(!(a=b) )": 7, "(&(a=b)": 7, "(&(a=b)x": 7, "(|(a=b) (c=d))": 7, "(&(a=b)&(c=d))": 7, "(|(!)": 4, "(&()": 3, "(|(&": 4, "(!(&)": 5,
		strings.Repeat("(!", 400): 800, strings.Repeat("(&", 500): 1000, strings.Repeat("(|", 400) + "x": 800, "(" + strings.Repeat("a", 999): 1000, "(a=" + strings.Repeat("b", 997): 1000,
		strings.Repeat("(!", 200) + "(a=*)" + strings.Repeat(")", 201): 605, strings.Repeat("(!", 200) + "(a=*)" + strings.Repeat(")", 199): 604,
		"(&" + strings.Repeat("(a=*)", 100): 502,
	}
}
