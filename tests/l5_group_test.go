package tests

import (
	"slices"
	"strconv"
	"strings"
	"testing"

	"loop.example/g00036/impl"
)

func TestConstantsOfGroups(t *testing.T) {
	if impl.MaxNests != 200 || impl.MaxRules != 20 {
		t.Errorf("constants: got %d, %d", impl.MaxNests, impl.MaxRules)
	}
}

func TestGoodNests(t *testing.T) {
	for _, list := range goodNestLists() {
		if !impl.GoodNests(list) || !goodNestsByWords(list) {
			t.Errorf("GoodNests(%.300q): want true", nestsText(list))
		}
	}
	for _, list := range badNestLists() {
		if impl.GoodNests(list) || goodNestsByWords(list) {
			t.Errorf("GoodNests of %d nests, %.300q: want false", len(list), nestsText(list))
		}
	}
}

func TestNestsWithEachByte(t *testing.T) {
	for b := range 256 {
		s := string([]byte{byte(b)})
		capital, letter := isBetween(b, 'A', 'Z'), isBetween(b, 'a', 'z')
		first, later := capital || letter || s == "_", capital || letter || s == "_" || isBetween(b, '0', '9')
		for _, text := range []string{s, s + "a", s + "A"} {
			if impl.GoodNests([]impl.Nest{nest(text, "a")}) != capital || impl.GoodNests([]impl.Nest{nest("A", text)}) != first {
				t.Errorf("a name that begins with byte %d", b)
			}
		}
		for _, text := range []string{"A" + s, "A" + s + "a"} {
			if impl.GoodNests([]impl.Nest{nest(text, "a")}) != later || impl.GoodNests([]impl.Nest{nest("A", text)}) != later {
				t.Errorf("a name with byte %d in it", b)
			}
		}
	}
}

func TestNestsRiseByGroupThenMember(t *testing.T) {
	var all []impl.Nest
	for _, group := range []string{"A", "A1", "AA", "A_", "Aa", "B"} {
		for _, member := range []string{"A", "A1", "B", "_", "a", "a1", "ab", "b"} {
			all = append(all, nest(group, member))
		}
	}
	if !impl.GoodNests(all) {
		t.Errorf("GoodNests(%q): want true", nestsText(all))
	}
	for i, a := range all {
		for j, b := range all {
			if got := impl.GoodNests([]impl.Nest{a, b}); got != (i < j) {
				t.Errorf("GoodNests(%q): got %v", nestsText([]impl.Nest{a, b}), got)
			}
			for _, c := range []int{0, len(all) - 1} {
				if got := impl.GoodNests([]impl.Nest{a, b, all[c]}); got != (i < j && j < c) {
					t.Errorf("GoodNests(%q): got %v", nestsText([]impl.Nest{a, b, all[c]}), got)
				}
			}
		}
	}
}

// goodNestsOf keeps a table from telling nothing of a list that is not good.
func goodNestsOf(t *testing.T, text string) []impl.Nest {
	t.Helper()
	list := nestsOf(text)
	if !goodNestsByWords(list) {
		t.Fatalf("%q is no good list", text)
	}
	return list
}

func TestReachOf(t *testing.T) {
	for _, told := range []struct{ name, list, want string }{
		{"nothing", "", ""},
		{"a member", "A>a", "A>a:1"},
		{"a group", "A>B", "A>B:1"},
		{"a group and what is in it", "A>B B>a", "A>B:1 A>a:2 B>a:1"},
		{"not the other way", "A>a B>A", "A>a:1 B>A:1 B>a:2"},
		{"a chain", "A>B B>C C>D D>a", "A>B:1 A>C:2 A>D:3 A>a:4 B>C:1 B>D:2 B>a:3 C>D:1 C>a:2 D>a:1"},
		{"in itself by one nest", "A>A", "A>A:1"},
		{"in itself by one nest, with a member", "A>A A>a", "A>A:1 A>a:1"},
		{"in itself by two nests", "A>B B>A", "A>A:2 A>B:1 B>A:1 B>B:2"},
		{"in itself by three nests", "A>B B>C C>A", "A>A:3 A>B:1 A>C:2 B>A:2 B>B:3 B>C:1 C>A:1 C>B:2 C>C:3"},
		{"in itself by one nest and by two", "A>A A>B B>A", "A>A:1 A>B:1 B>A:1 B>B:2"},
		{"a short way and a long one", "A>B A>a B>C C>a", "A>B:1 A>C:2 A>a:1 B>C:1 B>a:2 C>a:1"},
		{"a long way told first", "A>B A>D B>C C>a D>a", "A>B:1 A>C:2 A>D:1 A>a:2 B>C:1 B>a:2 C>a:1 D>a:1"},
		{"a member behind a loop", "A>B B>A B>C C>a", "A>A:2 A>B:1 A>C:2 A>a:3 B>A:1 B>B:2 B>C:1 B>a:2 C>a:1"},
		{"a loop behind a group", "A>B B>B B>a", "A>B:1 A>a:2 B>B:1 B>a:1"},
		{"two that don't hang together", "A>a B>b", "A>a:1 B>b:1"},
		{"a group that nothing is in", "A>B C>a", "A>B:1 C>a:1"},
		{"a name that begins with an underscore", "A>B B>_C", "A>B:1 A>_C:2 B>_C:1"},
		{"told by Group, then Member", "Aa>z B>A B>_ B>a Z>B", "Aa>z:1 B>A:1 B>_:1 B>a:1 Z>A:2 Z>B:1 Z>_:2 Z>a:2"},
	} {
		list := goodNestsOf(t, told.list)
		if got := reachText(impl.ReachOf(list)); got != told.want {
			t.Errorf("%s: got %q, want %q", told.name, got, told.want)
		}
		if got := reachText(reachByWords(list)); got != told.want {
			t.Errorf("%s, by the words: got %q, want %q", told.name, got, told.want)
		}
	}
}

func TestReachAtItsLimits(t *testing.T) {
	chain, round := impl.ReachOf(chainedNests(impl.MaxNests)), impl.ReachOf(roundNests(impl.MaxNests))
	if len(chain) != 20100 || len(round) != 40000 {
		t.Fatalf("ReachOf of the longest chain and loop: got %d, %d", len(chain), len(round))
	}
	at := 0
	for i := range impl.MaxNests {
		for j := i + 1; j <= impl.MaxNests; j++ {
			if want := (impl.Reach{Group: countedGroup(i), Member: countedGroup(j), Steps: j - i}); chain[at] != want {
				t.Fatalf("the longest chain: got %v, want %v", chain[at], want)
			}
			at++
		}
		for j := range impl.MaxNests {
			if want := (impl.Reach{Group: countedGroup(i), Member: countedGroup(j), Steps: (j-i+199)%200 + 1}); round[i*200+j] != want {
				t.Fatalf("the longest loop: got %v, want %v", round[i*200+j], want)
			}
		}
	}
	if got := impl.ReachOf(starNests("All", impl.MaxNests)); len(got) != impl.MaxNests {
		t.Errorf("ReachOf of MaxNests members: got %d", len(got))
	}
	for _, list := range [][]impl.Nest{chainedNests(impl.MaxNests + 1), roundNests(impl.MaxNests + 1), starNests("All", impl.MaxNests+1)} {
		if got := impl.ReachOf(list); len(got) != 0 {
			t.Errorf("ReachOf of one nest too many: got %d", len(got))
		}
	}
}

func TestMembersOf(t *testing.T) {
	list := goodNestsOf(t, "A>B A>C A>ann B>D B>bob C>D C>_c D>B D>ann D>zoe E>E F>G")
	for _, told := range []struct{ group, want string }{
		{"A", "_c ann bob zoe"}, {"B", "ann bob zoe"}, {"C", "_c ann bob zoe"}, {"D", "ann bob zoe"}, {"E", ""}, {"F", ""}, {"G", ""}, {"H", ""}, {"ann", ""}, {"a", ""}, {"", ""}, {"\xff", ""},
	} {
		if got := strings.Join(impl.MembersOf(list, told.group), " "); got != told.want {
			t.Errorf("MembersOf %q: got %q, want %q", told.group, got, told.want)
		}
	}
}

func TestGroupsOf(t *testing.T) {
	list := goodNestsOf(t, "A>B A>C A>ann B>D B>bob C>D C>_c D>B D>ann D>zoe E>E F>G")
	for _, told := range []struct{ member, want string }{
		{"ann", "A B C D"}, {"bob", "A B C D"}, {"_c", "A C"}, {"zoe", "A B C D"}, {"A", ""}, {"B", "A B C D"}, {"C", "A"}, {"D", "A B C D"}, {"E", "E"}, {"F", ""}, {"G", "F"}, {"H", ""}, {"c", ""}, {"", ""}, {"\xff", ""},
	} {
		if got := strings.Join(impl.GroupsOf(list, told.member), " "); got != told.want {
			t.Errorf("GroupsOf %q: got %q, want %q", told.member, got, told.want)
		}
	}
}

func TestWayOf(t *testing.T) {
	for _, told := range []struct{ name, list, group, member, want string }{
		{"nothing", "", "A", "a", ""},
		{"one nest", "A>a", "A", "a", "A a"},
		{"not in it", "A>a B>b", "A", "b", ""},
		{"not the other way", "A>B", "B", "A", ""},
		{"not in itself", "A>B B>a", "A", "A", ""},
		{"two nests", "A>B B>a", "A", "a", "A B a"},
		{"a group", "A>B B>C", "A", "C", "A B C"},
		{"the short one, least or not", "A>B A>Z B>C C>a Z>a", "A", "a", "A Z a"},
		{"one nest, and others beside it", "A>B A>C A>a B>a C>a", "A", "a", "A a"},
		{"names that part at the first place", "A>B A>C B>Z C>D D>a Z>a", "A", "a", "A B Z a"},
		{"names that part at a middle place", "A>B B>C B>D C>Z D>E E>a Z>a", "A", "a", "A B C Z a"},
		{"names that part at the last place", "A>B B>C C>Y C>Z Y>a Z>a", "A", "a", "A B C Y a"},
		{"the first unlike one decides", "A>B A>C B>Y B>Z C>D D>a Y>a Z>a", "A", "a", "A B Y a"},
		{"the least name leads nowhere", "A>B A>C A>D B>b C>a D>a", "A", "a", "A C a"},
		{"the least name leads there later", "A>B A>C A>D B>E C>F D>F E>G F>a G>a", "A", "a", "A C F a"},
		{"bytes, not capitals", "A>AB A>Aa A>B AB>x Aa>a B>a", "A", "a", "A Aa a"},
		{"a name that ends is less", "A>B A>B1 B>a B1>a", "A", "a", "A B a"},
		{"through a loop", "A>B B>C C>B C>a", "A", "a", "A B C a"},
		{"through a group that is in itself", "A>B B>B B>a", "A", "a", "A B a"},
		{"from a group that is in itself", "A>A A>B B>a", "A", "a", "A B a"},
		{"within a loop", "A>B B>C C>D D>A", "C", "B", "C D A B"},
		{"in itself by one nest", "A>A A>B B>A", "A", "A", "A A"},
		{"in itself by two nests", "A>B A>C B>A C>A", "A", "A", "A B A"},
		{"in itself by three nests", "A>B B>C B>D C>A D>A", "A", "A", "A B C A"},
		{"in itself, around another loop", "A>B B>C C>B C>D D>A", "A", "A", "A B C D A"},
		{"two loops that hang together", "A>B B>A B>C C>B", "A", "C", "A B C"},
		{"two loops that don't", "A>B B>A C>D D>C", "A", "C", ""},
		{"of what is no group", "A>a", "a", "a", ""},
		{"of a group that is not there", "A>a", "B", "a", ""},
		{"of a member that is not there", "A>a", "A", "b", ""},
	} {
		list := goodNestsOf(t, told.list)
		if got := strings.Join(impl.WayOf(list, told.group, told.member), " "); got != told.want {
			t.Errorf("%s: got %q, want %q", told.name, got, told.want)
		}
	}
}

func TestWaysAtTheirLimits(t *testing.T) {
	chain, round := chainedNests(impl.MaxNests), roundNests(impl.MaxNests)
	way := impl.WayOf(chain, countedGroup(0), countedGroup(200))
	back := impl.WayOf(round, countedGroup(7), countedGroup(7))
	if len(way) != 201 || !slices.IsSorted(way) || len(back) != 201 || back[0] != back[200] || back[1] != countedGroup(8) {
		t.Errorf("the longest ways: got %q and %q", way, back)
	}
	if got := impl.Loops(round); len(got) != 200 || !slices.IsSorted(got) {
		t.Errorf("Loops of the longest loop: got %q", got)
	}
	if got := impl.Loops(chain); len(got) != 0 {
		t.Errorf("Loops of the longest chain: got %q", got)
	}
	if got := impl.MembersOf(starNests("All", impl.MaxNests), "All"); len(got) != 200 || !slices.IsSorted(got) {
		t.Errorf("MembersOf MaxNests: got %q", got)
	}
	if got := impl.GroupsOf(chain, countedGroup(200)); len(got) != 200 || !slices.IsSorted(got) {
		t.Errorf("GroupsOf the last of a chain: got %q", got)
	}
}

// ladder has two groups at each of so many levels, each in both above it: the ways double with each level, and their steps don't.
func ladder(levels int) []impl.Nest {
	var list []impl.Nest
	for i := range levels {
		for _, side := range []string{"a", "b"} {
			list = append(list, nest(countedGroup(i)+side, countedGroup(i+1)+"a"), nest(countedGroup(i)+side, countedGroup(i+1)+"b"))
		}
	}
	return list
}

func TestWaysThatDouble(t *testing.T) {
	list := ladder(50)
	want := []string{countedGroup(0) + "b"}
	for i := 1; i < 50; i++ {
		want = append(want, countedGroup(i)+"a")
	}
	want = append(want, countedGroup(50)+"b")
	if got := impl.WayOf(list, want[0], want[50]); !slices.Equal(got, want) {
		t.Errorf("WayOf: got %q, want %q", got, want)
	}
	if got := impl.ReachOf(list); !slices.Equal(got, reachByWords(list)) {
		t.Errorf("ReachOf: got %q", reachText(got))
	}
}

func TestLoops(t *testing.T) {
	for _, told := range []struct{ name, list, want string }{
		{"nothing", "", ""},
		{"none", "A>B B>C C>a", ""},
		{"none, by two ways", "A>B A>C B>D C>D D>a", ""},
		{"by one nest", "A>A B>a", "A"},
		{"by two", "A>B B>A", "A B"},
		{"by three", "A>C B>A C>B", "A B C"},
		{"what leads into a loop is not in it", "A>B B>C C>B", "B C"},
		{"what comes behind a loop is not in it", "A>B B>A B>C C>a", "A B"},
		{"between two loops", "A>A A>B B>C C>C", "A C"},
		{"that hang together at a group", "A>B B>A B>C C>B", "A B C"},
		{"that hang together at a nest", "A>B B>C C>A C>D D>B", "A B C D"},
		{"that hang together one way alone", "A>B B>A B>C C>D D>C", "A B C D"},
		{"that don't hang together", "A>B B>A C>a D>E E>D", "A B D E"},
		{"by one nest within another", "A>A A>B B>A B>B", "A B"},
		{"not by its members", "A>a B>a", ""},
	} {
		if got := strings.Join(impl.Loops(goodNestsOf(t, told.list)), " "); got != told.want {
			t.Errorf("%s: got %q, want %q", told.name, got, told.want)
		}
	}
}

// askNests holds all that is told of a list against the words.
func askNests(t *testing.T, list []impl.Nest) {
	t.Helper()
	index := reachByWords(list)
	if got := impl.ReachOf(list); !slices.Equal(got, index) {
		t.Fatalf("ReachOf(%q): got %q, want %q", nestsText(list), reachText(got), reachText(index))
	}
	if got, want := impl.Loops(list), loopsByWords(index); !slices.Equal(got, want) {
		t.Fatalf("Loops(%q): got %q, want %q", nestsText(list), got, want)
	}
	names := append(namesOf(list), "Nobody", "nobody")
	for _, name := range names {
		if got, want := impl.MembersOf(list, name), membersByWords(index, name); !slices.Equal(got, want) {
			t.Fatalf("MembersOf(%q, %q): got %q, want %q", nestsText(list), name, got, want)
		}
		if got, want := impl.GroupsOf(list, name), groupsByWords(index, name); !slices.Equal(got, want) {
			t.Fatalf("GroupsOf(%q, %q): got %q, want %q", nestsText(list), name, got, want)
		}
		for _, member := range names {
			if got, want := impl.WayOf(list, name, member), wayByWords(list, index, name, member); !slices.Equal(got, want) {
				t.Fatalf("WayOf(%q, %q, %q): got %q, want %q", nestsText(list), name, member, got, want)
			}
		}
	}
}

// smallNests are all nests of three groups and a member that is none, of which a list has those of its bits.
func smallNests(bits int) []impl.Nest {
	var list []impl.Nest
	for i, n := range nestsOf("A>A A>B A>C A>m B>A B>B B>C B>m C>A C>B C>C C>m") {
		if bits>>i&1 == 1 {
			list = append(list, n)
		}
	}
	return list
}

const manySmall = 1 << 12

func TestAllSmallGroups(t *testing.T) {
	for bits := range manySmall {
		askNests(t, smallNests(bits))
	}
}

func TestDrawnGroups(t *testing.T) {
	from := drawn()
	for range 300 {
		askNests(t, drawnNests(from, 2+from.Intn(9), 1+from.Intn(4), from.Intn(20)))
	}
	for range 20 {
		askNests(t, drawnNests(from, 26, 4, 10+from.Intn(40)))
	}
	for _, list := range goodNestLists() {
		if len(list) < 20 {
			askNests(t, list)
		}
	}
}

// A way is asked by the nests alone: it begins and ends where it should, each two names of it are a nest, and it has as many steps as the index says.
func TestAWayIsAShortestOne(t *testing.T) {
	from := drawn()
	told := map[int]int{}
	for range 400 {
		list := drawnNests(from, 20, 4, 1+from.Intn(60))
		for _, r := range impl.ReachOf(list) {
			way := impl.WayOf(list, r.Group, r.Member)
			if len(way) != r.Steps+1 || way[0] != r.Group || way[r.Steps] != r.Member {
				t.Fatalf("WayOf(%q, %q, %q): got %q, want %d steps", nestsText(list), r.Group, r.Member, way, r.Steps)
			}
			for i := range r.Steps {
				if !slices.Contains(list, nest(way[i], way[i+1])) {
					t.Fatalf("WayOf(%q, %q, %q): got %q", nestsText(list), r.Group, r.Member, way)
				}
			}
			told[r.Steps]++
		}
	}
	for steps := 1; steps <= 8; steps++ {
		if told[steps] < 100 {
			t.Errorf("ways of %d steps: only %d were drawn", steps, told[steps])
		}
	}
}

func TestAddNest(t *testing.T) {
	for _, told := range []struct{ name, list, nest, want, index string }{
		{"to nothing", "", "A>a", "A>a", "A>a:1"},
		{"a group to itself", "", "A>A", "A>A", "A>A:1"},
		{"at the beginning", "B>a", "A>B", "A>B B>a", "A>B:1 A>a:2 B>a:1"},
		{"at the end", "A>B", "B>a", "A>B B>a", "A>B:1 A>a:2 B>a:1"},
		{"between", "A>B C>a", "B>C", "A>B B>C C>a", "A>B:1 A>C:2 A>a:3 B>C:1 B>a:2 C>a:1"},
		{"between members", "A>a A>c", "A>b", "A>a A>b A>c", "A>a:1 A>b:1 A>c:1"},
		{"there already", "A>B B>a", "A>B", "A>B B>a", "A>B:1 A>a:2 B>a:1"},
		{"a shorter way", "A>B B>C C>a", "A>C", "A>B A>C B>C C>a", "A>B:1 A>C:1 A>a:2 B>C:1 B>a:2 C>a:1"},
		{"a longer way", "A>B A>C C>a", "B>C", "A>B A>C B>C C>a", "A>B:1 A>C:1 A>a:2 B>C:1 B>a:2 C>a:1"},
		{"a loop", "A>B B>a", "B>A", "A>B B>A B>a", "A>A:2 A>B:1 A>a:2 B>A:1 B>B:2 B>a:1"},
		{"a loop within a loop", "A>B B>C C>A", "B>A", "A>B B>A B>C C>A", "A>A:2 A>B:1 A>C:2 B>A:1 B>B:2 B>C:1 C>A:1 C>B:2 C>C:3"},
	} {
		list := goodNestsOf(t, told.list)
		for _, index := range append(wrongIndexes(impl.ReachOf(list)), impl.ReachOf(list)) {
			next, kept := impl.AddNest(list, index, nestsOf(told.nest)[0])
			if nestsText(next) != told.want || reachText(kept) != told.index {
				t.Errorf("%s, index %.200q: got %q and %q", told.name, reachText(index), nestsText(next), reachText(kept))
			}
		}
	}
}

func TestDropNest(t *testing.T) {
	for _, told := range []struct{ name, list, nest, want, index string }{
		{"of nothing", "", "A>a", "", ""},
		{"the only one", "A>a", "A>a", "", ""},
		{"not there", "A>B B>a", "A>a", "A>B B>a", "A>B:1 A>a:2 B>a:1"},
		{"of a group that is not there", "A>a", "B>a", "A>a", "A>a:1"},
		{"there the other way round", "A>B B>a", "B>A", "A>B B>a", "A>B:1 A>a:2 B>a:1"},
		{"the first", "A>B B>a", "A>B", "B>a", "B>a:1"},
		{"the last", "A>B B>a", "B>a", "A>B", "A>B:1"},
		{"between", "A>B B>C C>a", "B>C", "A>B C>a", "A>B:1 C>a:1"},
		{"another way is left", "A>B A>C B>a C>a", "B>a", "A>B A>C C>a", "A>B:1 A>C:1 A>a:2 C>a:1"},
		{"a longer way is left", "A>B A>a B>C C>a", "A>a", "A>B B>C C>a", "A>B:1 A>C:2 A>a:3 B>C:1 B>a:2 C>a:1"},
		{"of a loop", "A>B B>A B>a", "B>A", "A>B B>a", "A>B:1 A>a:2 B>a:1"},
		{"into a loop", "A>B B>C C>B C>a", "A>B", "B>C C>B C>a", "B>B:2 B>C:1 B>a:2 C>B:1 C>C:2 C>a:1"},
		{"of two loops that hang together", "A>B B>A B>C C>B", "B>C", "A>B B>A C>B", "A>A:2 A>B:1 B>A:1 B>B:2 C>A:2 C>B:1"},
		{"of a group in itself by more", "A>A A>B B>A", "A>A", "A>B B>A", "A>A:2 A>B:1 B>A:1 B>B:2"},
	} {
		list := goodNestsOf(t, told.list)
		for _, index := range append(wrongIndexes(impl.ReachOf(list)), impl.ReachOf(list)) {
			next, kept := impl.DropNest(list, index, nestsOf(told.nest)[0])
			if nestsText(next) != told.want || reachText(kept) != told.index {
				t.Errorf("%s, index %.200q: got %q and %q", told.name, reachText(index), nestsText(next), reachText(kept))
			}
		}
	}
}

// Each small list with each nest put in and taken out, each time held against the index of the list that comes of it.
func TestAllSmallSteps(t *testing.T) {
	all := smallNests(manySmall - 1)
	indexes := make([][]impl.Reach, manySmall)
	for bits := range manySmall {
		indexes[bits] = reachByWords(smallNests(bits))
	}
	for bits := range manySmall {
		list := smallNests(bits)
		for i, n := range all {
			with, without := bits|1<<i, bits&^(1<<i)
			for _, index := range [][]impl.Reach{indexes[bits], indexes[(bits+1)%manySmall]} {
				if next, kept := impl.AddNest(list, index, n); !slices.Equal(next, smallNests(with)) || !slices.Equal(kept, indexes[with]) {
					t.Fatalf("AddNest(%q, .., %v): got %q and %q", nestsText(list), n, nestsText(next), reachText(kept))
				}
				if next, kept := impl.DropNest(list, index, n); !slices.Equal(next, smallNests(without)) || !slices.Equal(kept, indexes[without]) {
					t.Fatalf("DropNest(%q, .., %v): got %q and %q", nestsText(list), n, nestsText(next), reachText(kept))
				}
			}
		}
	}
}

// The list and its index are handed on from step to step, as a directory would keep them.
func TestTheKeptIndexIsTheOneWorkedOutAnew(t *testing.T) {
	from := drawn()
	for range 60 {
		var list []impl.Nest
		var index []impl.Reach
		groups := 2 + from.Intn(12)
		for range 60 {
			n := drawnNests(from, groups, 3, 1)[0]
			want := addByWords(list, n)
			if from.Intn(3) == 0 {
				if len(list) > 0 && from.Intn(4) > 0 {
					n = oneOf(from, list)
				}
				want = dropByWords(list, n)
				list, index = impl.DropNest(list, index, n)
			} else {
				list, index = impl.AddNest(list, index, n)
			}
			if !slices.Equal(list, want) || !slices.Equal(index, reachByWords(want)) || !slices.Equal(index, impl.ReachOf(list)) {
				t.Fatalf("with %v put in or taken out: got %q and %q, want %q", n, nestsText(list), reachText(index), nestsText(want))
			}
		}
	}
}

func TestAnotherIndexCountsForNothing(t *testing.T) {
	from := drawn()
	for range 200 {
		list := drawnNests(from, 6, 3, from.Intn(16))
		n := drawnNests(from, 6, 3, 1)[0]
		with, without := addByWords(list, n), dropByWords(list, n)
		others := append(wrongIndexes(reachByWords(list)), reachByWords(with), reachByWords(without), reachByWords(drawnNests(from, 6, 3, 12)))
		for _, index := range others {
			if next, kept := impl.AddNest(list, index, n); !slices.Equal(next, with) || !slices.Equal(kept, reachByWords(with)) {
				t.Fatalf("AddNest(%q, %q, %v): got %q and %q", nestsText(list), reachText(index), n, nestsText(next), reachText(kept))
			}
			if next, kept := impl.DropNest(list, index, n); !slices.Equal(next, without) || !slices.Equal(kept, reachByWords(without)) {
				t.Fatalf("DropNest(%q, %q, %v): got %q and %q", nestsText(list), reachText(index), n, nestsText(next), reachText(kept))
			}
		}
	}
}

func TestStepsAtTheLimit(t *testing.T) {
	full := starNests("All", impl.MaxNests)
	index := impl.ReachOf(full)
	for _, told := range []struct {
		name string
		list []impl.Nest
		n    impl.Nest
		many int
	}{
		{"the last that may be", full[:199], full[199], 200},
		{"the last that may be, first of all", full[1:], full[0], 200},
		{"one more than may be", full, nest("All", "z"), 0},
		{"one more than may be, first of all", full, nest("A", "z"), 0},
		{"one that is there already", full, full[100], 200},
		{"to one too many, one that is there", starNests("All", 201), full[0], 0},
	} {
		next, kept := impl.AddNest(told.list, index, told.n)
		if len(next) != told.many || len(kept) != told.many || !slices.Equal(kept, reachByWords(next)) {
			t.Errorf("%s: got %d nests, %d reaches", told.name, len(next), len(kept))
		}
	}
	if next, kept := impl.DropNest(full, index, full[0]); !slices.Equal(next, full[1:]) || !slices.Equal(kept, index[1:]) {
		t.Errorf("one taken of a full list: got %d and %d", len(next), len(kept))
	}
	if next, kept := impl.DropNest(full, index, nest("All", "z")); !slices.Equal(next, full) || !slices.Equal(kept, index) {
		t.Errorf("none taken of a full list: got %d and %d", len(next), len(kept))
	}
	if next, kept := impl.DropNest(starNests("All", 201), index, full[0]); len(next)+len(kept) != 0 {
		t.Errorf("one taken of one too many: got %d and %d", len(next), len(kept))
	}
}

func TestStepsOfNoGoodNests(t *testing.T) {
	lists := [][]impl.Nest{nil, nestsOf("A>B B>a"), starNests("All", impl.MaxNests)}
	for _, n := range badNests() {
		for _, list := range lists {
			next, kept := impl.AddNest(list, impl.ReachOf(list), n)
			left, less := impl.DropNest(list, impl.ReachOf(list), n)
			if len(next)+len(kept)+len(left)+len(less) != 0 {
				t.Errorf("%q put in and taken out: got %q and %q", n, nestsText(next), nestsText(left))
			}
		}
	}
	for _, list := range badNestLists() {
		for _, n := range append(nestsOf("A>B Z>z"), list[0], list[len(list)-1]) {
			next, kept := impl.AddNest(list, nil, n)
			left, less := impl.DropNest(list, nil, n)
			if len(next)+len(kept)+len(left)+len(less) != 0 {
				t.Errorf("no good list, with %q: got %.200q and %.200q", n, nestsText(next), nestsText(left))
			}
		}
	}
}

func TestRuleNests(t *testing.T) {
	for _, told := range []struct{ name, rules, want string }{
		{"no rules", "", ""},
		{"all", "A (&)", "A>_fay A>ann A>bob A>eve"},
		{"none", "A (|)", ""},
		{"one", "A (cn=bob)", "A>bob"},
		{"a rule that no entry meets", "A (cn=nobody);B (cn=bob);C (&(cn=bob)(cn=ann))", "B>bob"},
		{"two rules that say the same", "A (age>=40);B (age>=40)", "A>bob B>bob"},
		{"two rules that say the same in two ways", "A (age>=40);B (!(age<=39))", "A>bob B>ann B>bob"},
		{"two entries with one cn, both met", "A (cn=ann)", "A>ann"},
		{"two entries with one cn, the first met", "A (age=7)", "A>ann"},
		{"two entries with one cn, the last met", "A (ref=*)", "A>ann"},
		{"an entry for which it is Maybe", "A (hat=*);B (!(hat=*));C (age=x);D (|(hat=*)(cn=bob))", "D>bob"},
		{"without cn", "A (class=Robot);B (key=k1)", ""},
		{"a cn that begins with a capital", "A (cn=Cid)", ""},
		{"a first cn that begins with a capital", "A (cn=dan)", ""},
		{"a second cn that is met", "A (cn=zoe)", "A>eve"},
		{"a cn that begins with an underscore", "A (cn=_fay)", "A>_fay"},
		{"a cn that is no name", "A (cn=gus k)", ""},
		{"a first cn that is no name", "A (cn=hal)", ""},
		{"told by Group, then Member", "A (cn=zoe);B (cn=bob);Ba (cn=ann)", "A>eve B>bob Ba>ann"},
	} {
		var rules []impl.GroupRule
		if told.rules != "" {
			rules = rulesOf(strings.Split(told.rules, ";")...)
		}
		entries := crew()
		for range 2 {
			if got := nestsText(impl.RuleNests(dirSchema(), entries, rules)); got != told.want {
				t.Errorf("%s: got %q, want %q", told.name, got, told.want)
			}
			slices.Reverse(entries)
		}
	}
}

// Nothing is said of Names that are alike, of faults, or of a schema without a type `cn`.
func TestRuleNestsAskNoMoreThanGoodEntries(t *testing.T) {
	bare := impl.DirSchema{Types: []impl.AttrType{{Name: "class", Syntax: impl.SynExact}}}
	for _, told := range []struct {
		name    string
		schema  impl.DirSchema
		entries []impl.Entry
		want    string
	}{
		{"no entries", dirSchema(), nil, ""},
		{"Names alike", dirSchema(), []impl.Entry{entryOf(nameOf("cn", "x"), "cn=a"), entryOf(nameOf("cn", "x"), "cn=b")}, "A>a A>b"},
		{"one entry twice", dirSchema(), slices.Repeat(crew()[:1], 2), "A>ann"},
		{"faults", dirSchema(), []impl.Entry{entryOf(nameOf("o", "x"), "class=none", "cn=a", "hat=z")}, "A>a"},
		{"cn is no type", bare, crew(), "A>_fay A>ann A>bob A>eve"},
		{"another attribute like cn", dirSchema(), []impl.Entry{entryOf(nameOf("o", "x"), "CN=a", "Cn=b", "c=c", "cna=d")}, ""},
	} {
		if got := nestsText(impl.RuleNests(told.schema, told.entries, rulesOf("A (&)"))); got != told.want {
			t.Errorf("%s: got %q, want %q", told.name, got, told.want)
		}
	}
}

func TestMemberNamesOfEntries(t *testing.T) {
	for _, n := range goodNests() {
		want := ""
		if otherName.MatchString(n.Member) {
			want = "A>" + n.Member
		}
		if got := nestsText(impl.RuleNests(dirSchema(), []impl.Entry{entryOf(nameOf("o", "x"), "cn="+n.Member)}, rulesOf("A (&)"))); got != want {
			t.Errorf("an entry with cn %q: got %q", n.Member, got)
		}
	}
	for _, member := range badMemberNames() {
		if got := impl.RuleNests(dirSchema(), []impl.Entry{entryOf(nameOf("o", "x"), "cn="+member)}, rulesOf("A (&)")); len(got) != 0 {
			t.Errorf("an entry with cn %q: got %q", member, nestsText(got))
		}
	}
}

func TestRuleNestsAtTheirLimits(t *testing.T) {
	ten := memberEntries(10)
	for _, told := range []struct {
		name    string
		entries []impl.Entry
		rules   []impl.GroupRule
		many    int
	}{
		{"MaxEntries", memberEntries(200), countedRules(1), 200},
		{"one entry too many", memberEntries(201), countedRules(1), 0},
		{"one entry too many, with few names", append(slices.Repeat(ten, 20), ten[0]), countedRules(1), 0},
		{"MaxEntries that are alike", slices.Repeat(ten, 20), countedRules(1), 10},
		{"MaxRules", ten, countedRules(20), 200},
		{"one rule too many", ten[:9], countedRules(21), 0},
		{"one nest too many", memberEntries(11), countedRules(19), 0},
		{"201 nests", memberEntries(67), countedRules(3), 0},
		{"198 nests", memberEntries(66), countedRules(3), 198},
		{"as many nests as may be said", memberEntries(200), countedRules(20), 0},
		{"no rules for MaxEntries", memberEntries(200), nil, 0},
	} {
		got := impl.RuleNests(dirSchema(), told.entries, told.rules)
		if len(got) != told.many || !impl.GoodNests(got) {
			t.Errorf("%s: got %d nests, want %d", told.name, len(got), told.many)
		}
	}
	rules := append(countedRules(1), ruleOf("Z", "(cn=m1000)"))
	if got := impl.RuleNests(dirSchema(), memberEntries(200), rules); len(got) != 0 {
		t.Errorf("200 nests and one: got %d", len(got))
	}
	if got := impl.RuleNests(dirSchema(), memberEntries(199), rules); len(got) != 200 {
		t.Errorf("199 nests and one: got %d", len(got))
	}
}

func TestRuleNestsByTheirWords(t *testing.T) {
	from := drawn()
	names := []string{"ann", "bob", "_", "Cid", "d-", "9", "zoe"}
	met, none := 0, 0
	for range 10000 {
		s := drawnSchema(from)
		var entries []impl.Entry
		for range from.Intn(8) {
			e := drawnEntry(from)
			for i, a := range e.Attrs {
				if a.Name == "cn" {
					e.Attrs[i].Values = slices.Compact(slices.Sorted(slices.Values([]string{oneOf(from, names), oneOf(from, names)})))
				}
			}
			entries = append(entries, e)
		}
		var rules []impl.GroupRule
		for i := range from.Intn(5) {
			rules = append(rules, impl.GroupRule{Group: countedGroup(i), Filter: drawnTree(from, 1+from.Intn(3), func() impl.FilterNode { return filterLeaf(from) })})
		}
		rules = slices.DeleteFunc(rules, func(r impl.GroupRule) bool { return !goodFilterByWords(r.Filter) })
		want := ruleNestsByWords(s, entries, rules)
		if got := impl.RuleNests(s, entries, rules); !slices.Equal(got, want) {
			t.Fatalf("RuleNests(%+v, %+v, %+v): got %q, want %q", s, entries, rules, nestsText(got), nestsText(want))
		}
		met += len(want)
		none += len(entries)*len(rules) - len(want)
	}
	if met < 1000 || none < 1000 {
		t.Errorf("only %d were met, %d were not", met, none)
	}
}

func TestRuleNestsOfNoGoodOnes(t *testing.T) {
	all := rulesOf("A (&)", "B (cn=ann)")
	for i, s := range badSchemas() {
		if got := impl.RuleNests(s, crew(), all); len(got) != 0 {
			t.Errorf("a wrong schema, %d: got %q", i, nestsText(got))
		}
	}
	for i, e := range badEntries() {
		for _, entries := range [][]impl.Entry{append(crew(), e), append([]impl.Entry{e}, crew()...)} {
			if got := impl.RuleNests(dirSchema(), entries, all); len(got) != 0 {
				t.Errorf("a wrong entry, %d: got %q", i, nestsText(got))
			}
		}
	}
	for i, rules := range badRuleLists() {
		if got := impl.RuleNests(dirSchema(), crew(), rules); len(got) != 0 {
			t.Errorf("wrong rules %d: got %q", i, nestsText(got))
		}
		if got := impl.RuleNests(dirSchema(), memberEntries(1), rules); len(got) != 0 {
			t.Errorf("wrong rules %d: got %q", i, nestsText(got))
		}
	}
	for i, rules := range goodRuleLists() {
		if got := impl.RuleNests(dirSchema(), crew(), rules); !slices.Equal(got, ruleNestsByWords(dirSchema(), crew(), rules)) || len(rules) > 0 && len(got) == 0 {
			t.Errorf("good rules %d: got %q", i, nestsText(got))
		}
	}
}

// What rules say is a list like any other.
func TestRuleNestsAreKeptLikeOthers(t *testing.T) {
	list := impl.RuleNests(dirSchema(), crew(), rulesOf("Adult (age>=18)", "Staff (class=Person)"))
	list, index := impl.AddNest(list, impl.ReachOf(list), nest("All", "Staff"))
	if got := reachText(index); got != "Adult>bob:1 All>Staff:1 All>ann:2 All>bob:2 Staff>ann:1 Staff>bob:1" {
		t.Errorf("the index: got %q", got)
	}
	if got := strings.Join(impl.MembersOf(list, "All"), " ") + "; " + strings.Join(impl.GroupsOf(list, "bob"), " "); got != "ann bob; Adult All Staff" {
		t.Errorf("members and groups: got %q", got)
	}
}

func TestGroupsOfNoGoodLists(t *testing.T) {
	for i, list := range badNestLists() {
		names := []string{"A", "B", "M", "All", "ann", "a", "m", countedGroup(0), list[0].Group, list[0].Member}
		if index, loops := impl.ReachOf(list), impl.Loops(list); len(index)+len(loops) != 0 {
			t.Errorf("no good list %d: got %d reaches, %d loops", i, len(index), len(loops))
		}
		for _, name := range names {
			if members, groups := impl.MembersOf(list, name), impl.GroupsOf(list, name); len(members)+len(groups) != 0 {
				t.Errorf("no good list %d, %q: got %q, %q", i, name, members, groups)
			}
			for _, member := range names {
				if way := impl.WayOf(list, name, member); len(way) != 0 {
					t.Errorf("no good list %d, %q and %q: got %q", i, name, member, way)
				}
			}
		}
	}
}

// A list of more groups than the small ones has its names in an order that is not that of their numbers.
func TestNamesAreHeldAgainstEachOtherByBytes(t *testing.T) {
	var list []impl.Nest
	for i := range 12 {
		list = append(list, nest("A", "G"+strconv.Itoa(i)), nest("G"+strconv.Itoa(i), "m"))
	}
	list = sortedNests(list)
	if got := impl.WayOf(list, "A", "m"); !slices.Equal(got, []string{"A", "G0", "m"}) {
		t.Errorf("WayOf: got %q", got)
	}
	if got := strings.Join(impl.GroupsOf(list, "m"), " "); got != "A G0 G1 G10 G11 G2 G3 G4 G5 G6 G7 G8 G9" {
		t.Errorf("GroupsOf: got %q", got)
	}
	list, _ = impl.DropNest(list, nil, nest("G0", "m"))
	list, _ = impl.DropNest(list, nil, nest("G1", "m"))
	if got := impl.WayOf(list, "A", "m"); !slices.Equal(got, []string{"A", "G10", "m"}) {
		t.Errorf("WayOf: got %q", got)
	}
}
