package tests

import (
	"math"
	"math/rand"
	"slices"
	"strconv"
	"strings"

	"loop.example/g00036/impl"
)

// wordsOfValues are what the tests call each value.
var wordsOfValues = []string{impl.No: "no", impl.Yes: "yes", impl.Maybe: "maybe"}

// desks is the schema of many tests of the chapter.
func desks() impl.RelSchema {
	return relOf(
		"caveat fresh(now time): now <= @9",
		"caveat near(from addr, zone text): from in 10.0.0.0/8 && zone == \"a\"",
		"type doc",
		" relation banned: group#member | user | user with fresh | user:*",
		" relation folder: folder | folder with fresh | folder:* | folder#see | user",
		" relation owner: user | user with fresh",
		" relation viewer: folder#see | group#member | group#member with fresh | user | user with near | user:* | user:* with near",
		" permission edit = owner - banned",
		" permission read = edit + viewer + folder->see",
		" permission view = read - banned",
		"type folder",
		" relation owner: group#member | user | user with fresh",
		" relation parent: folder",
		" permission see = owner + parent->see",
		"type group",
		" relation member: group#member | user | user with fresh | user:*",
		"type user",
	)
}

// deskTexts are the texts of a good list of tuples in the schema of desks.
func deskTexts() []string {
	return []string{
		"doc:d1#banned@user:cy", "doc:d1#folder@folder:f1", "doc:d1#owner@user:ann[fresh:{}]",
		"doc:d2#folder@folder:*", "doc:d2#folder@folder:f1#see", "doc:d2#folder@user:ann", "doc:d2#viewer@group:g1#member", "doc:d2#viewer@user:*[near:{zone:\"a\"}]",
		"folder:f1#parent@folder:f2", "folder:f2#owner@group:g1#member", "folder:f2#parent@folder:f1",
		"group:g1#member@group:g2#member", "group:g2#member@group:g1#member", "group:g2#member@user:bob",
	}
}

// askOf is the ask of a text like a tuple's.
func askOf(text string) impl.Ask {
	t := tupleOf(text)
	return impl.Ask{Type: t.Type, Id: t.Id, Name: t.Rel, SubType: t.SubType, SubId: t.SubId, SubRel: t.SubRel}
}

// sortedTuples are tuples as a good list has them, of each place one.
func sortedTuples(texts ...string) []impl.Tuple {
	list := tuplesOf(texts...)
	slices.SortStableFunc(list, func(a, b impl.Tuple) int { return strings.Compare(placeKey(a), placeKey(b)) })
	return slices.CompactFunc(list, func(a, b impl.Tuple) bool { return placeKey(a) == placeKey(b) })
}

func givenOf(text string) impl.Value {
	v, ok := impl.ReadValue(text)
	if !ok {
		panic("no value: " + text)
	}
	return v
}

func factsText(list []impl.Fact) string {
	var texts []string
	for _, f := range list {
		word := strconv.Itoa(f.Value)
		if isBetween(f.Value, 0, 2) {
			word = wordsOfValues[f.Value]
		}
		texts = append(texts, f.Type+":"+f.Id+"#"+f.Name+"="+word)
	}
	return strings.Join(texts, " ")
}

// factsOf are the facts of a text as factsText tells it.
func factsOf(text string) []impl.Fact {
	var list []impl.Fact
	for _, part := range strings.Fields(text) {
		own, word, _ := strings.Cut(part, "=")
		object, name, _ := strings.Cut(own, "#")
		typ, id, _ := strings.Cut(object, ":")
		value := slices.Index(wordsOfValues, word)
		if value < 0 {
			number, err := strconv.Atoi(word)
			if err != nil {
				panic("no facts: " + text)
			}
			value = number
		}
		list = append(list, impl.Fact{Type: typ, Id: id, Name: name, Value: value})
	}
	return list
}

// goodAsks are good in the schema of desks.
func goodAsks() []impl.Ask {
	all := []impl.Ask{askOf("doc:d1#view@user:ann")}
	for _, text := range []string{"doc:d1#banned@user:ann", "doc:d9#edit@doc:d9#edit", "folder:f1#see@group:g1#member", "folder:f1#parent@folder:f1", "group:g1#member@group:g1#member", "group:g1#member@doc:d1", "doc:d1#view@user:" + longId("-"), "doc:" + longId(".") + "#view@user:_", "doc:0#folder@doc:0#folder"} {
		all = append(all, askOf(text))
	}
	return all
}

// badAsks are not good in the schema of desks: each is a good one that was changed.
func badAsks() []impl.Ask {
	var bad []impl.Ask
	add := func(text string, change func(a *impl.Ask)) {
		a := askOf(text)
		change(&a)
		bad = append(bad, a)
	}
	for _, text := range []string{"doc:d1#view@user:ann", "folder:f1#owner@group:g1#member"} {
		for _, id := range append(badIds(), "*") {
			add(text, func(a *impl.Ask) { a.Id = id })
			add(text, func(a *impl.Ask) { a.SubId = id })
		}
		for _, word := range append(badWords(), "other", "Doc", "docs", "do", "nil", "view:", "member#member", "fresh", "true") {
			add(text, func(a *impl.Ask) { a.Type = word })
			add(text, func(a *impl.Ask) { a.Name = word })
			add(text, func(a *impl.Ask) { a.SubType = word })
			if word != "" {
				add(text, func(a *impl.Ask) { a.SubRel = word })
			}
		}
		for _, name := range []string{"see", "parent", "member", "doc", "d1"} {
			if text != "folder:f1#owner@group:g1#member" {
				add(text, func(a *impl.Ask) { a.Name = name })
			}
		}
		add(text, func(a *impl.Ask) { a.SubType, a.SubRel = "user", "member" })
		add(text, func(a *impl.Ask) { a.SubType, a.SubRel = "user", "owner" })
		add(text, func(a *impl.Ask) { a.SubType, a.SubRel = "group", "owner" })
		add(text, func(a *impl.Ask) { a.SubType, a.SubRel = "doc", "member" })
		add(text, func(a *impl.Ask) { a.Type = "user" })
		add(text, func(a *impl.Ask) { a.Type = "group" })
		add(text, func(a *impl.Ask) { a.Name = "member" })
	}
	return append(bad, impl.Ask{}, impl.Ask{Type: "doc"}, impl.Ask{Type: "doc", Id: "d1", Name: "view"}, impl.Ask{SubType: "user", SubId: "ann"})
}

// badGivens are no good records.
func badGivens() []impl.Value {
	return append(badValues(), setValue(), setValue(timeAtom(3)), atomValue(timeAtom(3)), impl.Value{}, recordValue([]string{"now"}), recordValue(nil, timeAtom(3)), recordValue([]string{"now"}, impl.Atom{}), recordValue([]string{"b", "a"}, numAtom(1), numAtom(1)))
}

// badFactLists are supported nowhere.
func badFactLists() [][]impl.Fact {
	bad := [][]impl.Fact{make([]impl.Fact, 1), make([]impl.Fact, 3000), slices.Repeat(factsOf("doc:d1#view=yes"), 2)}
	for _, value := range []int{math.MinInt, -1, impl.No, 3, 4, math.MaxInt} {
		bad = append(bad, []impl.Fact{{Type: "doc", Id: "d1", Name: "view", Value: value}})
	}
	for _, word := range append(badWords(), "other") {
		bad = append(bad, []impl.Fact{{Type: word, Id: "d1", Name: "view", Value: impl.Yes}}, []impl.Fact{{Type: "doc", Id: "d1", Name: word, Value: impl.Yes}})
	}
	for _, id := range append(badIds(), "*") {
		bad = append(bad, []impl.Fact{{Type: "doc", Id: id, Name: "view", Value: impl.Yes}})
	}
	return bad
}

// valuedTuples give relations of one object, from a on, the values that are told.
func valuedTuples(words ...string) []impl.Tuple {
	var texts []string
	for i, word := range words {
		given := map[string]string{"no": "{n:2}", "maybe": "{}", "yes": "{n:1}"}[word]
		texts = append(texts, "doc:d#"+string("abcdefgh"[i])+"@user:u[c:"+given+"]")
	}
	return tuplesOf(texts...)
}

// valuedRel has so many relations for valuedTuples, and permissions.
func valuedRel(many int, permissions ...string) impl.RelSchema {
	lines := []string{"caveat c(n num): n == 1", "type doc"}
	for i := range many {
		lines = append(lines, " relation "+string("abcdefgh"[i])+": user with c")
	}
	for _, p := range permissions {
		lines = append(lines, " permission "+p)
	}
	return relOf(append(lines, "type user")...)
}

// loopedFolders are folders that are all parents of each other and of themselves.
func loopedFolders(many int) []impl.Tuple {
	var texts []string
	for i := range many {
		for j := range many {
			texts = append(texts, "folder:f"+strconv.Itoa(10+i)+"#parent@folder:f"+strconv.Itoa(10+j))
		}
	}
	return tuplesOf(texts...)
}

// chainedFolders are folders each of which has the next one as its parent, from f1000 on.
func chainedFolders(many int) []impl.Tuple {
	var texts []string
	for i := range many {
		texts = append(texts, "folder:f"+strconv.Itoa(1000+i)+"#parent@folder:f"+strconv.Itoa(1001+i))
	}
	return tuplesOf(texts...)
}

// drawnGoodRel is a schema of a few types that is good; without says that nothing is taken away in it.
func drawnGoodRel(from *rand.Rand, without bool) impl.RelSchema {
	for {
		s := drawnRel(from)
		for _, t := range s.Types {
			for _, p := range t.Permissions {
				for i, n := range p.Body {
					if n.Kind == impl.RewriteLess && without {
						p.Body[i].Kind = impl.RewriteUnion
					}
				}
			}
		}
		if goodRelByWords(s) {
			return s
		}
	}
}

// drawnTupleIn fits the schema; few ids are drawn, so that they meet.
func drawnTupleIn(from *rand.Rand, s impl.RelSchema) impl.Tuple {
	typ := oneOf(from, s.Types)
	r := oneOf(from, typ.Relations)
	k := oneOf(from, r.Subjects)
	ids := []string{"x", "y", "z"}
	t := impl.Tuple{Type: typ.Name, Id: oneOf(from, ids), Rel: r.Name, SubType: k.Type, SubId: oneOf(from, ids), SubRel: k.Rel, Caveat: k.Caveat}
	if k.Star {
		t.SubId = "*"
	}
	for _, c := range s.Caveats {
		if c.Name == k.Caveat {
			t.Given = partOf(plainGiven(from, c.Params), from.Intn(64))
		}
	}
	return t
}

// plainGiven has a value of its kind for each param.
func plainGiven(from *rand.Rand, params []impl.Param) impl.Value {
	v := recordValue(nil)
	for _, p := range params {
		v.Names, v.Items = append(v.Names, p.Name), append(v.Items, oneOf(from, atomsOfKinds()[p.Kind]))
	}
	return v
}

// drawnTuplesIn are a good list in the schema, of so many at most.
func drawnTuplesIn(from *rand.Rand, s impl.RelSchema, many int) []impl.Tuple {
	var list []impl.Tuple
	for range many {
		list = append(list, drawnTupleIn(from, s))
	}
	slices.SortStableFunc(list, func(a, b impl.Tuple) int { return strings.Compare(placeKey(a), placeKey(b)) })
	return slices.CompactFunc(list, func(a, b impl.Tuple) bool { return placeKey(a) == placeKey(b) })
}

// drawnAskIn is good in the schema; w stands in no tuple.
func drawnAskIn(from *rand.Rand, s impl.RelSchema) impl.Ask {
	typ, sub := oneOf(from, s.Types).Name, oneOf(from, s.Types).Name
	ids := []string{"w", "x", "x", "y", "y", "z"}
	a := impl.Ask{Type: typ, Id: oneOf(from, ids), Name: oneOf(from, namesOfType(s, typ)), SubType: sub, SubId: oneOf(from, ids)}
	if from.Intn(4) == 0 {
		a.SubRel = oneOf(from, namesOfType(s, sub))
	}
	return a
}

// drawnGivenIn has values for params of the schema's caveats, some of another kind.
func drawnGivenIn(from *rand.Rand, s impl.RelSchema) impl.Value {
	if len(s.Caveats) == 0 {
		return recordValue(nil)
	}
	return partOf(drawnGiven(from, oneOf(from, s.Caveats).Params), from.Intn(64))
}
