package tests

import (
	"math"
	"math/rand"
	"slices"
	"strconv"
	"strings"

	"loop.example/g00036/impl"
)

func nest(group string, member string) impl.Nest {
	return impl.Nest{Group: group, Member: member}
}

// nestsOf reads nests told as `Group>Member`, with blanks between.
func nestsOf(text string) []impl.Nest {
	var list []impl.Nest
	for _, told := range strings.Fields(text) {
		group, member, _ := strings.Cut(told, ">")
		list = append(list, nest(group, member))
	}
	return list
}

func nestsText(list []impl.Nest) string {
	var texts []string
	for _, n := range list {
		texts = append(texts, n.Group+">"+n.Member)
	}
	return strings.Join(texts, " ")
}

// reachText tells an index as `Group>Member:Steps`, with blanks between.
func reachText(index []impl.Reach) string {
	var texts []string
	for _, r := range index {
		texts = append(texts, r.Group+">"+r.Member+":"+strconv.Itoa(r.Steps))
	}
	return strings.Join(texts, " ")
}

// countedGroup is the group's name of that number, which rises with it up to 899.
func countedGroup(i int) string {
	return "G" + strconv.Itoa(100+i)
}

// chainedNests are so many, each of a group in the one ahead of it.
func chainedNests(many int) []impl.Nest {
	var list []impl.Nest
	for i := range many {
		list = append(list, nest(countedGroup(i), countedGroup(i+1)))
	}
	return list
}

// roundNests are a loop of so many groups.
func roundNests(many int) []impl.Nest {
	list := chainedNests(many)
	list[many-1].Member = countedGroup(0)
	return list
}

// starNests are so many members of one group.
func starNests(group string, many int) []impl.Nest {
	var list []impl.Nest
	for i := range many {
		list = append(list, nest(group, "m"+strconv.Itoa(1000+i)))
	}
	return list
}

// goodNests are nests that meet what is asked of names.
func goodNests() []impl.Nest {
	long := strings.Repeat("N", impl.MaxName)
	var list []impl.Nest
	for _, group := range []string{"A", "Z", "M", "A_", "A9", "Za", "AA", long[1:], long} {
		for _, member := range []string{"a", "z", "_", "__", "_A", "_9", "a9", "aA", "A", "Z", "AZ", "N0", strings.ToLower(long), long[1:], long, group} {
			list = append(list, nest(group, member))
		}
	}
	return list
}

// badGroupNames are no groups' names.
func badGroupNames() []string {
	long := strings.Repeat("N", impl.MaxName+1)
	return []string{
		"", "a", "z", "ab", "aB", "_", "_A", "9", "9A", "@", "@A", "[", "[A", "`A", "{", " A", "A ", "A b", "A-b", "A.b", "A\x00", "\x00A", "A\n", "É", "é", "\xc3\x89", "\xff", "AÉ",
		strings.ToLower(long), long, strings.Repeat("N", 3000),
	}
}

// badMemberNames are no names at all.
func badMemberNames() []string {
	long := strings.Repeat("n", impl.MaxName+1)
	return []string{"", "9", "9a", "@", "[", "`", "{", " ", " a", "a ", "a b", "a-b", "a>b", "a\x00", "\x00", "a\n", "É", "é", "\xff", "aé", long, strings.ToUpper(long), strings.Repeat("n", 3000)}
}

func badNests() []impl.Nest {
	list := []impl.Nest{{}}
	for _, group := range badGroupNames() {
		list = append(list, nest(group, "m"), nest(group, "M"), nest(group, group))
	}
	for _, member := range badMemberNames() {
		list = append(list, nest("M", member))
	}
	return list
}

func goodNestLists() [][]impl.Nest {
	all := [][]impl.Nest{
		nil,
		{},
		chainedNests(impl.MaxNests),
		roundNests(impl.MaxNests),
		starNests("All", impl.MaxNests),
		append(starNests("All", impl.MaxNests-1), nest("B", "a")),
		nestsOf("A>A A>B A>_ A>a AA>A B>A B>A1 B>AA B>a"),
		nestsOf("A>z B>a Z>_"),
		nestsOf("All>Dev All>ann Dev>Ops Ops>Dev Ops>bob"),
	}
	for _, n := range goodNests() {
		all = append(all, []impl.Nest{n})
	}
	return all
}

// unsortedNests are lists of good nests that don't rise.
func unsortedNests() [][]impl.Nest {
	last := chainedNests(impl.MaxNests)
	last[impl.MaxNests-1] = last[impl.MaxNests-2]
	first := chainedNests(impl.MaxNests)
	first[0], first[1] = first[1], first[0]
	all := [][]impl.Nest{last, first}
	for _, text := range []string{"A>a A>a", "A>A A>A", "B>a A>a", "A>b A>a", "A>a A>A", "B>a A>b", "A>a B>a B>a", "A>a C>a B>a", "A>a A>c A>b", "A>a B>b A>c", "AA>a A>a", "A>aa A>a", "A>a B>A A>a"} {
		all = append(all, nestsOf(text))
	}
	return all
}

func badNestLists() [][]impl.Nest {
	bad := append(unsortedNests(),
		chainedNests(impl.MaxNests+1),
		roundNests(impl.MaxNests+1),
		starNests("All", impl.MaxNests+1),
		starNests("All", 3000),
		make([]impl.Nest, 1),
		make([]impl.Nest, 3000),
	)
	for _, n := range badNests() {
		list := append(nestsOf("A>B A>ann B>A N>bob Z>ann"), n)
		slices.SortFunc(list, func(a, b impl.Nest) int { return strings.Compare(a.Group+"\x00"+a.Member, b.Group+"\x00"+b.Member) })
		bad = append(bad, []impl.Nest{n}, list)
	}
	return bad
}

// oddIndexes are indexes of which most are no list's, or not the list's that they stand beside.
func oddIndexes() [][]impl.Reach {
	return [][]impl.Reach{
		nil,
		{},
		make([]impl.Reach, 1),
		make([]impl.Reach, 3000),
		{{Group: "A", Member: "a", Steps: 1}},
		{{Group: "A", Member: "a", Steps: 7}},
		{{Group: "A", Member: "a", Steps: 0}, {Group: "A", Member: "x", Steps: -1}},
		{{Group: "Z", Member: "a", Steps: math.MaxInt}, {Group: "A", Member: "Z", Steps: math.MaxInt}},
		{{Group: "A", Member: "Z", Steps: math.MinInt}, {Group: "A", Member: "Z", Steps: 1}, {Group: "\xff", Member: "", Steps: 2}},
	}
}

// wrongIndexes are made of a right one, by a change each.
func wrongIndexes(index []impl.Reach) [][]impl.Reach {
	all := oddIndexes()
	if len(index) == 0 {
		return all
	}
	turned := slices.Clone(index)
	slices.Reverse(turned)
	nearer, farther := slices.Clone(index), slices.Clone(index)
	for i := range index {
		nearer[i].Steps, farther[i].Steps = 1, index[i].Steps+1
	}
	more := append(slices.Clone(index), impl.Reach{Group: index[0].Member, Member: index[0].Group, Steps: 1})
	return append(all, turned, nearer, farther, more, index[1:], index[:len(index)-1], slices.Concat(index, index))
}

// drawnNests have few names, so that they meet: up to 26 groups and 4 others.
func drawnNests(from *rand.Rand, groups int, others int, many int) []impl.Nest {
	var names []string
	for i := range groups {
		names = append(names, string(rune('A'+i)))
	}
	names = append(names, []string{"_", "a", "b", "c"}[:others]...)
	var list []impl.Nest
	for range many {
		list = append(list, nest(names[from.Intn(groups)], oneOf(from, names)))
	}
	return sortedNests(list)
}

func ruleOf(group string, filter string) impl.GroupRule {
	return impl.GroupRule{Group: group, Filter: impl.ReadFilter(filter).Nodes}
}

// rulesOf takes each rule as its Group, a blank and its filter's text.
func rulesOf(texts ...string) []impl.GroupRule {
	var rules []impl.GroupRule
	for _, text := range texts {
		group, filter, _ := strings.Cut(text, " ")
		rules = append(rules, ruleOf(group, filter))
	}
	return rules
}

// countedRules are so many that all entries meet.
func countedRules(many int) []impl.GroupRule {
	var rules []impl.GroupRule
	for i := range many {
		rules = append(rules, ruleOf(countedGroup(i), "(&)"))
	}
	return rules
}

// memberEntries are so many, each with a cn of its own.
func memberEntries(many int) []impl.Entry {
	var entries []impl.Entry
	for i := range many {
		entries = append(entries, entryOf(nameOf("cn", "x"+strconv.Itoa(i)), "cn=m"+strconv.Itoa(1000+i)))
	}
	return entries
}

// crew are entries with a cn of each sort.
func crew() []impl.Entry {
	return []impl.Entry{
		entryOf(nameOf("cn", "1"), "age=7", "class=Person", "cn=ann"),
		entryOf(nameOf("cn", "2"), "age=40", "class=Person", "cn=bob"),
		entryOf(nameOf("cn", "3"), "class=Robot", "key=k1"),
		entryOf(nameOf("cn", "4"), "age=9", "cn=Cid"),
		entryOf(nameOf("cn", "5"), "age=9", "cn=Dan|dan"),
		entryOf(nameOf("cn", "6"), "age=9", "cn=eve|zoe"),
		entryOf(nameOf("cn", "7"), "age=9", "cn=_fay"),
		entryOf(nameOf("cn", "8"), "age=9", "cn=gus k"),
		entryOf(nameOf("cn", "9"), "age=9", "cn=0|hal"),
		entryOf(nameOf("cn", "10"), "age=x", "cn=ann", "ref=there"),
	}
}

func goodRuleLists() [][]impl.GroupRule {
	return [][]impl.GroupRule{
		nil,
		{},
		countedRules(1),
		countedRules(impl.MaxRules),
		rulesOf("A (&)", "B (&)", "Z (|)"),
		rulesOf("A (cn=*)", "AA (age>=9)", "Old (age>=9)", "Some (hat=*)", strings.Repeat("Z", impl.MaxName)+" (!(class=Robot))"),
	}
}

func badRuleLists() [][]impl.GroupRule {
	bad := [][]impl.GroupRule{
		countedRules(impl.MaxRules + 1),
		make([]impl.GroupRule, 1),
		make([]impl.GroupRule, 3000),
		rulesOf("A (&)", "A (&)"),
		rulesOf("A (|)", "A (&)"),
		rulesOf("B (&)", "A (&)"),
		rulesOf("A (&)", "C (&)", "B (&)"),
		rulesOf("A (&)", "B (&)", "B (&)"),
		rulesOf("AA (&)", "A (&)"),
		append(countedRules(impl.MaxRules-1), ruleOf(countedGroup(0), "(&)")),
	}
	for _, group := range badGroupNames() {
		bad = append(bad, []impl.GroupRule{ruleOf(group, "(&)")}, []impl.GroupRule{ruleOf("A", "(&)"), ruleOf(group, "(&)")}, []impl.GroupRule{ruleOf(group, "(&)"), ruleOf("Z", "(&)")})
	}
	for _, f := range badFilters() {
		bad = append(bad, []impl.GroupRule{{Group: "A", Filter: f}}, append(rulesOf("A (&)"), impl.GroupRule{Group: "B", Filter: f}))
	}
	return bad
}
