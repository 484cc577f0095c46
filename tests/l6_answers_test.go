package tests

import (
	"reflect"
	"slices"
	"strings"
	"testing"

	"loop.example/g00036/impl"
)

func oddRels() []impl.RelSchema {
	all := badRels()
	for _, g := range goodRels() {
		all = append(all, g.schema)
	}
	return append(all, fullRel(), relOfLength(impl.MaxRelText+1))
}

func oddCaveats() []impl.Caveat {
	all := badCaveats()
	for _, g := range goodCaveats() {
		all = append(all, g.caveat)
	}
	return all
}

// oddRelTexts are texts of every sort, well formed or not.
func oddRelTexts() []string {
	texts := oddDirTexts()
	for _, g := range goodRels() {
		texts = append(texts, g.text)
	}
	for _, line := range wrongRelLines() {
		texts = append(texts, line, line+"\n", "type a\n"+line+"\n")
	}
	for _, s := range []string{"\n", "type a\n", "caveat c(", "caveat c(a text): a == \"", "caveat c(a text): a == \\", "a num, ", "a == 1 && ", "type a\n relation r: ", "type a\n permission p = ", "type a\n permission p = r + (", "(", " | ", "\"", "\\\""} {
		texts = append(texts, s, strings.Repeat(s, 300), strings.Repeat(s, 100000), "type a\n permission p = r"+strings.Repeat(s, 700)+"\n", "caveat c(a text): a == \""+strings.Repeat(s, 700)+"\n")
	}
	return append(texts,
		"type a\n permission p = "+strings.Repeat("r + (", 1590),
		"type a\n permission p = "+strings.Repeat("r + (", 1590)+"\n",
		"type a\n permission p = "+strings.Repeat("r - ", 1990)+"\n",
		"type a\n permission p = "+strings.Repeat("(", 7970)+"\n",
	)
}

func TestRelationsAnswerAtAnyText(t *testing.T) {
	for _, text := range oddRelTexts() {
		got := impl.ReadRelSchema(text)
		if !sameRelRes(got, readRelByWords(text)) || got.Err != 0 && len(got.Schema.Caveats)+len(got.Schema.Types) > 0 {
			t.Errorf("ReadRelSchema(%.100q): got Err %d, Line %d", text, got.Err, got.Line)
		}
		name := changeName.MatchString(text)
		if got := impl.GoodRelSchema(impl.RelSchema{Types: []impl.RelType{{Name: text}}}); got != name {
			t.Errorf("a type named %.100q: got %v", text, got)
		}
		if got := impl.GoodCaveat(caveatOf(text, countedParams(1), sameTerms(1)...)); got != name {
			t.Errorf("a caveat named %.100q: got %v", text, got)
		}
		own := name && text != "true" && text != "false"
		if got := impl.GoodCaveat(caveatOf("c", []impl.Param{param(text, impl.NumAtom)}, paramTerm(text, impl.OpSame, text))); got != own {
			t.Errorf("a param named %.100q: got %v", text, got)
		}
		s := office()
		s.Types[2].Relations[0].Name = text
		impl.GoodRelSchema(s)
		if got := impl.DependsOn(office(), text, text); len(got) != 0 {
			t.Errorf("DependsOn(%.100q): got %q", text, strataText(got))
		}
		if got := impl.TermHolds(paramTerm(text, impl.OpSame, text), []impl.Param{param(text, impl.NumAtom)}, recordValue(nil)); got != impl.Maybe {
			t.Errorf("TermHolds of %.100q: got %d", text, got)
		}
		impl.TermHolds(atomTerm("a", impl.OpMost, textAtom(text)), countedParams(1), recordValue([]string{"a0"}, numAtom(1)))
		impl.CaveatHolds(caveatOf(text, countedParams(1), atomTerm(text, impl.OpSame, refAtom(text, text))), recordValue(nil))
	}
}

func TestCaveatsAnswerAtAnyNumbers(t *testing.T) {
	given := recordValue([]string{"a", "b"}, numAtom(1), numAtom(1))
	for _, num := range append(oddInts(), 5, 6, 7, 8) {
		for _, other := range append(oddInts(), 5, 6, 7, 8) {
			params := []impl.Param{param("a", num), param("b", other)}
			for _, term := range []impl.CavTerm{paramTerm("a", num, "b"), paramTerm("a", other, "a"), atomTerm("a", other, numAtom(num)), atomTerm("b", num, impl.Atom{Kind: other, Num: num})} {
				c := caveatOf("c", params, term)
				if impl.GoodCaveat(c) != goodCaveatByWords(c) || impl.CaveatHolds(c, given) != caveatByWords(c, given) || impl.TermHolds(term, params, given) != termByWords(term, params, given) {
					t.Errorf("a caveat of %d and %d: %+v", num, other, c)
				}
			}
		}
		body := []impl.Rewrite{{Kind: num}, {Kind: impl.RewriteNil}, {Kind: impl.RewriteNil}}
		for length := range 4 {
			if got := impl.GoodRelSchema(withBody(body[:length])); got != goodRelByWords(withBody(body[:length])) {
				t.Errorf("%d nodes, the first of Kind %d: got %v", length, num, got)
			}
		}
	}
}

func TestCaveatsAnswerAtAnyValues(t *testing.T) {
	terms := []impl.CavTerm{{}, paramTerm("a", impl.OpSame, "b"), paramTerm("a", impl.OpIn, "a"), atomTerm("a", impl.OpMost, numAtom(1)), atomTerm("b", impl.OpLess, impl.Atom{})}
	lists := [][]impl.Param{nil, {}, countedParams(3000), make([]impl.Param, 3000), {param("a", 1), param("b", 2), param("a", 3)}}
	for _, v := range oddValues() {
		for _, params := range lists {
			for _, term := range terms {
				if got := impl.TermHolds(term, params, v); got != termByWords(term, params, v) {
					t.Errorf("TermHolds(%+v): got %d", term, got)
				}
			}
		}
		for _, c := range []impl.Caveat{{}, goodCaveats()[0].caveat, goodCaveats()[2].caveat, goodCaveats()[6].caveat} {
			if got := impl.CaveatHolds(c, v); got != caveatByWords(c, v) {
				t.Errorf("CaveatHolds(%+v): got %d", c, got)
			}
		}
	}
	records := []impl.Value{recordValue(nil), recordValue([]string{"a", "b"}, numAtom(1), textAtom("x")), recordValue(countedNames(impl.MaxItems), countedAtoms(impl.MaxItems)...)}
	for _, c := range oddCaveats() {
		for _, v := range records {
			if got := impl.CaveatHolds(c, v); got != caveatByWords(c, v) {
				t.Errorf("CaveatHolds(%.200s): got %d", shown(c), got)
			}
			for _, term := range c.Terms {
				if got := impl.TermHolds(term, c.Params, v); got != termByWords(term, c.Params, v) {
					t.Errorf("TermHolds(%.200s): got %d", shown(term), got)
				}
			}
		}
	}
	for _, a := range oddAtoms() {
		for op := range 6 {
			term := atomTerm("a", op, a)
			for _, v := range records {
				if got := impl.TermHolds(term, lists[4], v); got != termByWords(term, lists[4], v) {
					t.Errorf("TermHolds(%.200s): got %d", shown(term), got)
				}
			}
		}
	}
}

func TestRelationsAnswerAtAnySchema(t *testing.T) {
	for i, s := range oddRels() {
		good := goodRelByWords(s)
		if got := impl.GoodRelSchema(s); got != good {
			t.Errorf("schema %d: got %v", i, got)
		}
		if got := impl.RelSchemaText(s); got != relTextByWords(s) {
			t.Errorf("schema %d: got the text %.200q", i, got)
		}
		if got := impl.StrataOf(s); !good && len(got) > 0 {
			t.Errorf("schema %d: got %q", i, strataText(got))
		}
		for _, typ := range []string{"", "a", "t10", "doc", "nil"} {
			for _, name := range []string{"", "r", "p", "r10", "view", "nil"} {
				known := slices.Contains(namesOfType(s, typ), name)
				if got := impl.DependsOn(s, typ, name); (len(got) > 0) != (good && known) {
					t.Errorf("schema %d, %s#%s: got %q", i, typ, name, strataText(got))
				}
			}
		}
	}
}

// relArguments are all that the functions of the chapter take, but for texts.
type relArguments struct {
	schema impl.RelSchema
	caveat impl.Caveat
	given  impl.Value
}

func roomyCaveat(c impl.Caveat) impl.Caveat {
	c.Params, c.Terms = withRoom(c.Params, param("behind", 1)), withRoom(c.Terms, paramTerm("behind", 1, "behind"))
	return c
}

func openedCaveat(c impl.Caveat) impl.Caveat {
	c.Params, c.Terms = opened(c.Params), opened(c.Terms)
	return c
}

// everyList is the schema with each of its lists gone through by what is told for its sort.
func everyList(s impl.RelSchema, types func([]impl.RelType) []impl.RelType, relations func([]impl.Relation) []impl.Relation, permissions func([]impl.Permission) []impl.Permission, subjects func([]impl.SubjectKind) []impl.SubjectKind, body func([]impl.Rewrite) []impl.Rewrite) impl.RelSchema {
	s.Types = types(s.Types)
	for i, t := range s.Types {
		t.Relations, t.Permissions = relations(t.Relations), permissions(t.Permissions)
		for j, r := range t.Relations {
			t.Relations[j].Subjects = subjects(r.Subjects)
		}
		for j, p := range t.Permissions {
			t.Permissions[j].Body = body(p.Body)
		}
		s.Types[i] = t
	}
	return s
}

func (a relArguments) roomy() relArguments {
	a.schema = everyList(a.schema,
		func(list []impl.RelType) []impl.RelType { return withRoom(list, impl.RelType{Name: "behind"}) },
		func(list []impl.Relation) []impl.Relation { return withRoom(list, impl.Relation{Name: "behind"}) },
		func(list []impl.Permission) []impl.Permission {
			return withRoom(list, impl.Permission{Name: "behind"})
		},
		func(list []impl.SubjectKind) []impl.SubjectKind {
			return withRoom(list, impl.SubjectKind{Type: "behind"})
		},
		func(list []impl.Rewrite) []impl.Rewrite { return withRoom(list, impl.Rewrite{Name: "behind"}) },
	)
	a.schema.Caveats = withRoom(a.schema.Caveats, impl.Caveat{Name: "behind"})
	for i, c := range a.schema.Caveats {
		a.schema.Caveats[i] = roomyCaveat(c)
	}
	a.caveat = roomyCaveat(a.caveat)
	a.given.Items, a.given.Names = withRoom(a.given.Items, numAtom(-7)), withRoom(a.given.Names, "behind")
	return a
}

func (a relArguments) opened() relArguments {
	a.schema = everyList(a.schema, opened[impl.RelType], opened[impl.Relation], opened[impl.Permission], opened[impl.SubjectKind], opened[impl.Rewrite])
	a.schema.Caveats = opened(a.schema.Caveats)
	for i, c := range a.schema.Caveats {
		a.schema.Caveats[i] = openedCaveat(c)
	}
	a.caveat = openedCaveat(a.caveat)
	a.given.Items, a.given.Names = opened(a.given.Items), opened(a.given.Names)
	return a
}

func scribbleCaveats(caveats []impl.Caveat) {
	for _, c := range caveats {
		scribble(c.Params, param("scribbled", -7))
		scribble(c.Terms, paramTerm("scribbled", -7, "scribbled"))
	}
	scribble(caveats, impl.Caveat{Name: "scribbled"})
}

func scribbleRel(s impl.RelSchema) {
	scribbleCaveats(s.Caveats)
	for _, t := range s.Types {
		for _, r := range t.Relations {
			scribble(r.Subjects, impl.SubjectKind{Type: "scribbled"})
		}
		for _, p := range t.Permissions {
			scribble(p.Body, impl.Rewrite{Kind: -7})
		}
		scribble(t.Relations, impl.Relation{Name: "scribbled"})
		scribble(t.Permissions, impl.Permission{Name: "scribbled"})
	}
	scribble(s.Types, impl.RelType{Name: "scribbled"})
}

func (a relArguments) scribbleOver() {
	scribbleRel(a.schema)
	scribbleCaveats([]impl.Caveat{a.caveat})
	scribble(a.given.Items, numAtom(-7))
	scribble(a.given.Names, "scribbled")
}

// relAnswers are all that the functions of the chapter answer.
type relAnswers struct {
	schema impl.RelSchema
	strata [][]impl.Stratum
	rest   []any
}

func (a relArguments) ask() relAnswers {
	text := impl.RelSchemaText(a.schema)
	r := relAnswers{
		schema: impl.ReadRelSchema(text).Schema,
		strata: [][]impl.Stratum{impl.StrataOf(a.schema)},
		rest:   []any{text, impl.GoodRelSchema(a.schema), impl.GoodCaveat(a.caveat), impl.CaveatHolds(a.caveat, a.given)},
	}
	for _, on := range []string{"doc#owner", "group#member", "a#r", "a#p", "t10#p10", "doc#see"} {
		typ, name, _ := strings.Cut(on, "#")
		r.strata = append(r.strata, impl.DependsOn(a.schema, typ, name))
	}
	for _, term := range a.caveat.Terms {
		r.rest = append(r.rest, impl.TermHolds(term, a.caveat.Params, a.given))
	}
	return r
}

// copied is the same answers in memory of their own.
func (r relAnswers) copied() relAnswers {
	out := relAnswers{schema: relArguments{schema: r.schema}.opened().schema, rest: r.rest}
	for _, list := range r.strata {
		out.strata = append(out.strata, slices.Clone(list))
	}
	return out
}

func (r relAnswers) scribbleOver() {
	scribbleRel(r.schema)
	for _, list := range r.strata {
		scribble(list, impl.Stratum{Type: "scribbled", Level: -9})
	}
}

func manyRelArguments() []relArguments {
	good := relArguments{office(), office().Caveats[1], recordValue([]string{"from", "zone"}, addrAtom(10<<24, 8), textAtom("a && b"))}
	all := []relArguments{good}
	for _, s := range oddRels() {
		if len(s.Types)+len(s.Caveats) < 100 {
			all = append(all, relArguments{s, good.caveat, good.given})
		}
	}
	for _, c := range oddCaveats() {
		all = append(all, relArguments{good.schema, c, good.given})
	}
	for _, v := range oddValues() {
		all = append(all, relArguments{good.schema, good.caveat, v})
	}
	turned := good.roomy()
	slices.Reverse(turned.schema.Types)
	slices.Reverse(turned.schema.Caveats)
	slices.Reverse(turned.schema.Types[1].Relations)
	slices.Reverse(turned.caveat.Params)
	slices.Reverse(turned.given.Names)
	return append(all, turned)
}

func TestArgumentsOfRelationsStayAsTheyWere(t *testing.T) {
	for i, told := range manyRelArguments() {
		a := told.roomy()
		before := a.opened()
		first := a.ask()
		if !reflect.DeepEqual(a.opened(), before) {
			t.Errorf("arguments %d changed", i)
		}
		first.scribbleOver()
		if !reflect.DeepEqual(a.opened(), before) {
			t.Errorf("arguments %d changed with their answers", i)
		}
	}
}

func TestAnswersOfRelationsShareNothing(t *testing.T) {
	for i, told := range manyRelArguments() {
		a := told.roomy()
		kept := a.ask().copied()
		first, second := a.ask(), a.ask()
		first.scribbleOver()
		a.scribbleOver()
		if !reflect.DeepEqual(second.copied(), kept) {
			t.Errorf("answers %d changed with their arguments, or with other answers", i)
		}
	}
}

// Each list of a schema that is read is written over, with the room behind it, while all others are looked at.
func TestListsOfOneSchemaShareNothing(t *testing.T) {
	for _, g := range goodRels() {
		s := impl.ReadRelSchema(g.text).Schema
		before := shown(s)
		for _, c := range s.Caveats {
			params, terms := slices.Clone(c.Params), slices.Clone(c.Terms)
			scribble(c.Params, param("scribbled", -7))
			copy(c.Params, params)
			scribble(c.Terms, paramTerm("scribbled", -7, ""))
			copy(c.Terms, terms)
		}
		for _, typ := range s.Types {
			for _, r := range typ.Relations {
				subjects := slices.Clone(r.Subjects)
				scribble(r.Subjects, impl.SubjectKind{Type: "scribbled"})
				copy(r.Subjects, subjects)
			}
			for _, p := range typ.Permissions {
				body := slices.Clone(p.Body)
				scribble(p.Body, impl.Rewrite{Kind: -7})
				copy(p.Body, body)
			}
			relations, permissions := slices.Clone(typ.Relations), slices.Clone(typ.Permissions)
			scribble(typ.Relations, impl.Relation{Name: "scribbled"})
			copy(typ.Relations, relations)
			scribble(typ.Permissions, impl.Permission{Name: "scribbled"})
			copy(typ.Permissions, permissions)
		}
		if shown(s) != before {
			t.Errorf("lists of the schema of %.100q share memory", g.text)
		}
	}
}

func TestAnEmptyListOfRelationsIsTheNilList(t *testing.T) {
	s := office()
	s.Types[3].Relations, s.Types[3].Permissions = []impl.Relation{}, []impl.Permission{}
	if impl.RelSchemaText(s) != officeText || strataText(impl.StrataOf(s)) != strataText(impl.StrataOf(office())) {
		t.Errorf("a type with empty lists is told as %q", impl.RelSchemaText(s))
	}
	empty := impl.RelSchema{Caveats: []impl.Caveat{}, Types: []impl.RelType{}}
	if !impl.GoodRelSchema(empty) || impl.RelSchemaText(empty) != "" || len(impl.StrataOf(empty)) != 0 {
		t.Errorf("a schema of empty lists")
	}
	term := paramTerm("a", impl.OpSame, "a")
	for _, v := range []impl.Value{recordValue(nil), recordValue([]string{}), {Kind: impl.ValueRecord, Items: []impl.Atom{}, Names: []string{}}} {
		if impl.TermHolds(term, nil, v) != impl.Maybe || impl.TermHolds(term, []impl.Param{}, v) != impl.Maybe || impl.CaveatHolds(goodCaveats()[0].caveat, v) != impl.Maybe {
			t.Errorf("what is given is empty: want Maybe")
		}
	}
}
