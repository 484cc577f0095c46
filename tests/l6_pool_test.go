package tests

import (
	"fmt"
	"math"
	"math/rand"
	"slices"
	"strconv"
	"strings"

	"loop.example/g00036/impl"
)

// toldRel is a schema and the text that the document gives it.
type toldRel struct {
	schema impl.RelSchema
	text   string
}

// toldCaveat is a caveat and its line.
type toldCaveat struct {
	caveat impl.Caveat
	text   string
}

// shown is a value of any type as a text, of which a test may tell the beginning alone.
func shown(x any) string {
	return fmt.Sprintf("%+v", x)
}

// relLines is a text of lines, each ended.
func relLines(lines ...string) string {
	return strings.Join(append(lines, ""), "\n")
}

// relOf is the schema, good or not, of lines that are right.
func relOf(lines ...string) impl.RelSchema {
	s, wrong := relLinesByWords(relLines(lines...))
	if wrong > 0 {
		panic("a wrong line: " + relLines(lines...))
	}
	return s
}

func strataText(list []impl.Stratum) string {
	var texts []string
	for _, x := range list {
		texts = append(texts, x.Type+"#"+x.Name+":"+strconv.Itoa(x.Level))
	}
	return strings.Join(texts, " ")
}

func param(name string, kind int) impl.Param {
	return impl.Param{Name: name, Kind: kind}
}

func paramTerm(left string, op int, right string) impl.CavTerm {
	return impl.CavTerm{Left: left, Op: op, Param: right}
}

func atomTerm(left string, op int, a impl.Atom) impl.CavTerm {
	return impl.CavTerm{Left: left, Op: op, Atom: a}
}

func caveatOf(name string, params []impl.Param, terms ...impl.CavTerm) impl.Caveat {
	return impl.Caveat{Name: name, Params: params, Terms: terms}
}

func namedBody(name string) []impl.Rewrite {
	return []impl.Rewrite{{Kind: impl.RewriteName, Name: name}}
}

func arrowBody(via string, name string) []impl.Rewrite {
	return []impl.Rewrite{{Kind: impl.RewriteArrow, Via: via, Name: name}}
}

func nilBody() []impl.Rewrite {
	return []impl.Rewrite{{Kind: impl.RewriteNil}}
}

func pairBody(kind int, first []impl.Rewrite, second []impl.Rewrite) []impl.Rewrite {
	return slices.Concat([]impl.Rewrite{{Kind: kind}}, first, second)
}

// leftBody has so many nodes within each other, always in the first kid.
func leftBody(within int) []impl.Rewrite {
	body := namedBody("r")
	for i := range within - 1 {
		body = pairBody(impl.RewriteUnion+i%3, body, nilBody())
	}
	return body
}

// rightBody has so many nodes within each other, always in the second kid.
func rightBody(within int) []impl.Rewrite {
	body := namedBody("r")
	for i := range within - 1 {
		body = pairBody(impl.RewriteUnion+i%3, nilBody(), body)
	}
	return body
}

// crookedBody has so many nodes within each other, in the first and the second kid by turns.
func crookedBody(within int) []impl.Rewrite {
	body := namedBody("r")
	for i := range within - 1 {
		if i%2 == 0 {
			body = pairBody(impl.RewriteMeet, nilBody(), body)
		} else {
			body = pairBody(impl.RewriteLess, body, nilBody())
		}
	}
	return body
}

// broadBody has so many nodes, an odd number, few of them within each other.
func broadBody(nodes int) []impl.Rewrite {
	if nodes == 1 {
		return namedBody("r")
	}
	second := (nodes - 1) / 2
	if second%2 == 0 {
		second--
	}
	return pairBody(impl.RewriteUnion, broadBody(nodes-1-second), broadBody(second))
}

// withBody is a good schema but for that body of a permission p.
func withBody(body []impl.Rewrite) impl.RelSchema {
	s := relOf("type a", " relation r: a")
	s.Types[0].Permissions = []impl.Permission{{Name: "p", Body: body}}
	return s
}

func longName(letter string) string {
	return strings.Repeat(letter, impl.MaxName)
}

// goodCaveats are caveats of every sort, each with its line.
func goodCaveats() []toldCaveat {
	long := longName("n")
	all := []toldCaveat{
		{caveatOf("fresh", []impl.Param{param("now", impl.TimeAtom)}, atomTerm("now", impl.OpMost, timeAtom(9))), "caveat fresh(now time): now <= @9"},
		{caveatOf("c", []impl.Param{param("a", impl.NumAtom)}, paramTerm("a", impl.OpLess, "a")), "caveat c(a num): a < a"},
		{caveatOf("true", []impl.Param{param("nil", impl.BoolAtom)}, atomTerm("nil", impl.OpSame, boolAtom(1)), paramTerm("nil", impl.OpSame, "nil"), atomTerm("nil", impl.OpSame, boolAtom(0))), "caveat true(nil bool): nil == true && nil == nil && nil == false"},
		{caveatOf("nil", []impl.Param{param("in", impl.AddrAtom), param("into", impl.AddrAtom)}, paramTerm("in", impl.OpIn, "in"), paramTerm("in", impl.OpIn, "into"), atomTerm("into", impl.OpSame, addrAtom(10<<24, 8))), "caveat nil(in addr, into addr): in in in && in in into && into == 10.0.0.0/8"},
		{caveatOf("caveat", []impl.Param{param("False", impl.TextAtom)}, atomTerm("False", impl.OpMost, textAtom("true"))), "caveat caveat(False text): False <= \"true\""},
		{caveatOf(long, []impl.Param{param(long, impl.RefAtom)}, paramTerm(long, impl.OpSame, long), atomTerm(long, impl.OpSame, refAtom("true", "true"))), "caveat " + long + "(" + long + " ref): " + long + " == " + long + " && " + long + " == true::\"true\""},
		{caveatOf("_", []impl.Param{param("A", impl.NumAtom), param("Z", impl.NumAtom), param("_", impl.NumAtom), param("a", impl.NumAtom), param("a1", impl.NumAtom), param("aa", impl.NumAtom)}, paramTerm("aa", impl.OpMost, "A"), paramTerm("A", impl.OpLess, "aa"), atomTerm("_", impl.OpSame, numAtom(0)), atomTerm("_", impl.OpSame, numAtom(0)), paramTerm("Z", impl.OpSame, "a1"), atomTerm("a", impl.OpLess, numAtom(-1))), "caveat _(A num, Z num, _ num, a num, a1 num, aa num): aa <= A && A < aa && _ == 0 && _ == 0 && Z == a1 && a < -1"},
	}
	for _, text := range []string{" && ", "a && b", "a && b == 1", ", ", ")", "): a == 1", "(", "\"", "\" && \"", "\\", "\\ ", "\\\\\"", " ", "", "|", "\" ", "a\" && a == \"b", "caveat c(a text): a == \"b\""} {
		a, r := textAtom(text), refAtom("User", text+".")
		quoted, ref := impl.AtomText(a), impl.AtomText(r)
		all = append(all,
			toldCaveat{caveatOf("c", []impl.Param{param("a", impl.TextAtom)}, atomTerm("a", impl.OpSame, a)), "caveat c(a text): a == " + quoted},
			toldCaveat{caveatOf("c", []impl.Param{param("a", impl.TextAtom), param("b", impl.RefAtom)}, atomTerm("b", impl.OpSame, r), atomTerm("a", impl.OpLess, a), paramTerm("b", impl.OpSame, "b"), atomTerm("a", impl.OpMost, a)), "caveat c(a text, b ref): b == " + ref + " && a < " + quoted + " && b == b && a <= " + quoted},
		)
	}
	for _, g := range goodAtoms() {
		all = append(all, toldCaveat{caveatOf("c", []impl.Param{param("a", g.atom.Kind)}, atomTerm("a", impl.OpSame, g.atom)), "caveat c(a " + wordsOfKinds[g.atom.Kind] + "): a == " + g.text})
	}
	return all
}

func countedParams(many int) []impl.Param {
	var params []impl.Param
	for i := range many {
		params = append(params, param("a"+strconv.Itoa(i), impl.NumAtom))
	}
	return params
}

func sameTerms(many int) []impl.CavTerm {
	return slices.Repeat([]impl.CavTerm{paramTerm("a0", impl.OpSame, "a0")}, many)
}

// badWords are texts that are no names.
func badWords() []string {
	return []string{"", " ", "1", "1a", "a b", "a ", " a", "a-b", "a->b", "a#b", "a:", "a\n", "é", "a\xff", "\x00", "(", "*", longName("n") + "n", strings.Repeat("n", 9000)}
}

// badCaveats are made of a good one by a change each.
func badCaveats() []impl.Caveat {
	good := func() impl.Caveat {
		return caveatOf("c", []impl.Param{param("a", impl.NumAtom), param("b", impl.TextAtom), param("c", impl.AddrAtom), param("d", impl.NumAtom)}, atomTerm("a", impl.OpLess, numAtom(1)), paramTerm("a", impl.OpSame, "d"), paramTerm("c", impl.OpIn, "c"))
	}
	bad := []impl.Caveat{{}, {Name: "c"}}
	add := func(change func(c *impl.Caveat)) {
		c := good()
		change(&c)
		bad = append(bad, c)
	}
	for _, word := range badWords() {
		add(func(c *impl.Caveat) { c.Name = word })
		add(func(c *impl.Caveat) { c.Params[1].Name = word })
		add(func(c *impl.Caveat) { c.Terms[0].Left = word })
		add(func(c *impl.Caveat) { c.Terms[2].Param = word })
		bad = append(bad, caveatOf("c", []impl.Param{param(word, impl.NumAtom)}, paramTerm(word, impl.OpSame, word)))
	}
	for _, word := range []string{"true", "false"} {
		bad = append(bad, caveatOf("c", []impl.Param{param(word, impl.NumAtom)}, atomTerm(word, impl.OpSame, numAtom(1))), caveatOf("c", []impl.Param{param("a", impl.NumAtom), param(word, impl.NumAtom)}, atomTerm("a", impl.OpSame, numAtom(1))))
	}
	for _, kind := range []int{math.MinInt, -1, 0, 8, math.MaxInt} {
		add(func(c *impl.Caveat) { c.Params[1].Kind = kind })
		bad = append(bad, caveatOf("c", []impl.Param{param("a", kind)}, paramTerm("a", impl.OpSame, "a")))
	}
	for _, op := range []int{math.MinInt, -1, 0, 5, math.MaxInt} {
		add(func(c *impl.Caveat) { c.Terms[0].Op = op })
		add(func(c *impl.Caveat) { c.Terms[2].Op = op })
	}
	for _, a := range badAtoms() {
		bad = append(bad, caveatOf("c", []impl.Param{param("a", a.Kind)}, atomTerm("a", impl.OpSame, a)))
		if a != (impl.Atom{}) {
			add(func(c *impl.Caveat) { c.Terms[1].Atom = a })
		}
	}
	add(func(c *impl.Caveat) { c.Params[0], c.Params[1] = c.Params[1], c.Params[0] })
	add(func(c *impl.Caveat) { c.Params[2], c.Params[3] = c.Params[3], c.Params[2] })
	add(func(c *impl.Caveat) { c.Params[1] = param("a", impl.TextAtom) })
	add(func(c *impl.Caveat) { c.Params[1] = c.Params[0] })
	add(func(c *impl.Caveat) { c.Params = nil })
	add(func(c *impl.Caveat) { c.Terms = nil })
	add(func(c *impl.Caveat) { c.Terms = []impl.CavTerm{} })
	add(func(c *impl.Caveat) { c.Terms[0].Left = "e" })
	add(func(c *impl.Caveat) { c.Terms[1].Param = "e" })
	add(func(c *impl.Caveat) { c.Terms[1].Param = "true" })
	add(func(c *impl.Caveat) { c.Terms[1].Param = "b" })
	add(func(c *impl.Caveat) { c.Terms[1].Left = "b" })
	add(func(c *impl.Caveat) { c.Terms[1].Atom = numAtom(1) })
	add(func(c *impl.Caveat) { c.Terms[1].Atom = impl.Atom{Num: 1} })
	add(func(c *impl.Caveat) { c.Terms[0].Atom = textAtom("a") })
	add(func(c *impl.Caveat) { c.Terms[0].Atom = decAtom(1) })
	add(func(c *impl.Caveat) { c.Terms[0].Atom = impl.Atom{} })
	return append(bad,
		caveatOf("c", countedParams(impl.MaxTerms+1), sameTerms(1)...),
		caveatOf("c", countedParams(1), sameTerms(impl.MaxTerms+1)...),
		caveatOf("c", countedParams(3000), sameTerms(1)...),
		caveatOf("c", countedParams(1), sameTerms(3000)...),
		caveatOf("c", make([]impl.Param, 3), sameTerms(1)...),
		caveatOf("c", countedParams(1), make([]impl.CavTerm, 3)...),
	)
}

const officeText = "caveat fresh(now time): now <= @9\n" +
	"caveat near(from addr, zone text): from in 10.0.0.0/8 && zone == \"a && b\"\n" +
	"type doc\n" +
	" relation banned: group#member | user\n" +
	" relation folder: folder\n" +
	" relation owner: user | user with fresh | user:* with near\n" +
	" permission edit = owner - banned\n" +
	" permission view = edit + folder->see - (banned & owner)\n" +
	"type folder\n" +
	" relation owner: group#member | user | user:*\n" +
	" relation up: folder\n" +
	" permission see = owner + up->see\n" +
	"type group\n" +
	" relation member: group#member | user\n" +
	"type user\n"

// office is the schema of officeText, in memory of its own.
func office() impl.RelSchema {
	return impl.RelSchema{
		Caveats: []impl.Caveat{
			caveatOf("fresh", []impl.Param{param("now", impl.TimeAtom)}, atomTerm("now", impl.OpMost, timeAtom(9))),
			caveatOf("near", []impl.Param{param("from", impl.AddrAtom), param("zone", impl.TextAtom)}, atomTerm("from", impl.OpIn, addrAtom(10<<24, 8)), atomTerm("zone", impl.OpSame, textAtom("a && b"))),
		},
		Types: []impl.RelType{
			{
				Name: "doc",
				Relations: []impl.Relation{
					{Name: "banned", Subjects: []impl.SubjectKind{{Type: "group", Rel: "member"}, {Type: "user"}}},
					{Name: "folder", Subjects: []impl.SubjectKind{{Type: "folder"}}},
					{Name: "owner", Subjects: []impl.SubjectKind{{Type: "user"}, {Type: "user", Caveat: "fresh"}, {Type: "user", Star: true, Caveat: "near"}}},
				},
				Permissions: []impl.Permission{
					{Name: "edit", Body: pairBody(impl.RewriteLess, namedBody("owner"), namedBody("banned"))},
					{Name: "view", Body: pairBody(impl.RewriteLess, pairBody(impl.RewriteUnion, namedBody("edit"), arrowBody("folder", "see")), pairBody(impl.RewriteMeet, namedBody("banned"), namedBody("owner")))},
				},
			},
			{
				Name: "folder",
				Relations: []impl.Relation{
					{Name: "owner", Subjects: []impl.SubjectKind{{Type: "group", Rel: "member"}, {Type: "user"}, {Type: "user", Star: true}}},
					{Name: "up", Subjects: []impl.SubjectKind{{Type: "folder"}}},
				},
				Permissions: []impl.Permission{
					{Name: "see", Body: pairBody(impl.RewriteUnion, namedBody("owner"), arrowBody("up", "see"))},
				},
			},
			{Name: "group", Relations: []impl.Relation{{Name: "member", Subjects: []impl.SubjectKind{{Type: "group", Rel: "member"}, {Type: "user"}}}}},
			{Name: "user"},
		},
	}
}

// fullRel is a schema that meets each limit but that of its text.
func fullRel() impl.RelSchema {
	s := impl.RelSchema{}
	for i := range impl.MaxCaveats {
		s.Caveats = append(s.Caveats, caveatOf("c"+strconv.Itoa(i), countedParams(impl.MaxTerms), sameTerms(impl.MaxTerms)...))
	}
	for i := range impl.MaxRelTypes {
		t := impl.RelType{Name: "t" + strconv.Itoa(10+i)}
		for j := range impl.MaxRelations {
			r := impl.Relation{Name: "r" + strconv.Itoa(10+j)}
			for k := range impl.MaxSubjects {
				r.Subjects = append(r.Subjects, impl.SubjectKind{Type: "t" + strconv.Itoa(10+k), Rel: []string{"", "p15", "r11"}[(i+j+k)%3]})
			}
			t.Relations = append(t.Relations, r)
			body := broadBody(impl.MaxRewrites - 1)
			for k, n := range body {
				if n.Kind == impl.RewriteName {
					body[k].Name = "r" + strconv.Itoa(10+(j+k)%impl.MaxRelations)
				}
			}
			t.Permissions = append(t.Permissions, impl.Permission{Name: "p" + strconv.Itoa(10+j), Body: body})
		}
		s.Types = append(s.Types, t)
	}
	return s
}

// relOfLength is a good schema whose text has so many bytes, in 1000..9000.
func relOfLength(length int) impl.RelSchema {
	s := relOf("type a")
	for i := range impl.MaxCaveats {
		s.Caveats = append(s.Caveats, caveatOf("c"+strconv.Itoa(i), []impl.Param{param("a", impl.TextAtom)}, slices.Repeat([]impl.CavTerm{atomTerm("a", impl.OpSame, textAtom(""))}, impl.MaxTerms)...))
	}
	more := length - len("type a\n") - impl.MaxCaveats*len("caveat c0(a text): a == \"\" && a == \"\" && a == \"\" && a == \"\" && a == \"\" && a == \"\"\n")
	for i := range s.Caveats {
		for j := range s.Caveats[i].Terms {
			many := min(more, impl.MaxText)
			s.Caveats[i].Terms[j].Atom = textAtom(strings.Repeat("x", many))
			more -= many
		}
	}
	return s
}

// goodRels are good schemas with their texts.
func goodRels() []toldRel {
	long := longName("n")
	all := []toldRel{
		{impl.RelSchema{}, ""},
		{impl.RelSchema{Caveats: []impl.Caveat{}, Types: []impl.RelType{}}, ""},
		{impl.RelSchema{Types: []impl.RelType{{Name: "a"}}}, "type a\n"},
		{impl.RelSchema{Types: []impl.RelType{{Name: "A"}, {Name: "_"}, {Name: "a"}, {Name: "a1"}, {Name: "nil"}, {Name: long}, {Name: "type"}}}, "type A\ntype _\ntype a\ntype a1\ntype nil\ntype " + long + "\ntype type\n"},
		{office(), officeText},
		{withBody(nilBody()), relLines("type a", " relation r: a", " permission p = nil")},
		{withBody(namedBody("p")), relLines("type a", " relation r: a", " permission p = p")},
		{withBody(arrowBody("r", "p")), relLines("type a", " relation r: a", " permission p = r->p")},
		{withBody(arrowBody("r", "r")), relLines("type a", " relation r: a", " permission p = r->r")},
		{withBody(pairBody(impl.RewriteUnion, namedBody("r"), nilBody())), relLines("type a", " relation r: a", " permission p = r + nil")},
		{withBody(pairBody(impl.RewriteMeet, nilBody(), arrowBody("r", "p"))), relLines("type a", " relation r: a", " permission p = nil & r->p")},
		{withBody(pairBody(impl.RewriteLess, namedBody("p"), arrowBody("r", "r"))), relLines("type a", " relation r: a", " permission p = p - r->r")},
		{withBody(pairBody(impl.RewriteLess, pairBody(impl.RewriteMeet, pairBody(impl.RewriteUnion, namedBody("r"), namedBody("p")), nilBody()), namedBody("r"))), relLines("type a", " relation r: a", " permission p = r + p & nil - r")},
		{withBody(pairBody(impl.RewriteUnion, namedBody("r"), pairBody(impl.RewriteMeet, namedBody("p"), pairBody(impl.RewriteLess, nilBody(), namedBody("r"))))), relLines("type a", " relation r: a", " permission p = r + (p & (nil - r))")},
		{withBody(pairBody(impl.RewriteMeet, pairBody(impl.RewriteLess, namedBody("r"), pairBody(impl.RewriteUnion, nilBody(), namedBody("r"))), pairBody(impl.RewriteUnion, pairBody(impl.RewriteMeet, namedBody("p"), nilBody()), namedBody("r")))), relLines("type a", " relation r: a", " permission p = r - (nil + r) & (p & nil + r)")},
		{withBody(leftBody(10)), relLines("type a", " relation r: a", " permission p = r + nil & nil - nil + nil & nil - nil + nil & nil - nil")},
		{withBody(rightBody(10)), relLines("type a", " relation r: a", " permission p = nil - (nil & (nil + (nil - (nil & (nil + (nil - (nil & (nil + r))))))))")},
		{relOf("type type", " relation relation: type", " relation type: type#permission", " relation with: type", " permission permission = relation->with + with"), "type type\n relation relation: type\n relation type: type#permission\n relation with: type\n permission permission = relation->with + with\n"},
		{relOfLength(impl.MaxRelText), relTextByWords(relOfLength(impl.MaxRelText))},
	}
	for _, g := range goodCaveats() {
		all = append(all, toldRel{impl.RelSchema{Caveats: []impl.Caveat{g.caveat}}, g.text + "\n"})
	}
	for _, lines := range goodRelLines() {
		all = append(all, toldRel{relOf(lines...), relLines(lines...)})
	}
	return all
}

// goodRelLines are the lines of good schemas.
func goodRelLines() [][]string {
	long := longName("r")
	return [][]string{
		{"type a", " relation r: a#r"},
		{"type a", " relation r: a:*"},
		{"type a", " relation " + long + ": a#" + long},
		{"caveat with(a num): a == 1", "caveat x(a num): a == 1", "type a", "type b", " relation p: a | a with with | a with x | a:* | a:* with with | a:* with x | b | b with with", " relation q: b#p | b#p with with | b#p with x | b#q"},
		{"caveat with(with num): with == 1", "type with", " relation with: with with with"},
		{"type a", " relation r: a", " relation s: a:* | a#p", " permission p = s", " permission q = r->p"},
		{"type a", " permission p = q", " permission q = p"},
		{"type a", " permission false = true", " permission true = nil"},
		{"type A", " relation Nil: A", " permission NIL = Nil->NIL"},
		{"type a", " relation r: b", "type b", " relation s: a", " permission p = s->r"},
		{"type a", " relation r: a | b | b:*", " permission p = r->q", "type b", " permission q = nil"},
		{"type a", " relation r: a#r | b", " permission p = r->q", "type b", " permission q = nil"},
	}
}

// wrongRelLines are lines that are right nowhere.
func wrongRelLines() []string {
	lines := []string{
		"", " ", "  ", "type", "type ", " type a", "type  a", "type a ", "type a b", "type 1", "type 1a", "type a-b", "type a:", "type a\r", "type\ta", "Type a", "TYPE a", "typea", "types a", "type é", "type a\x00", "type (a)", "type \"a\"",
		"relation r: a", "permission p = r", "  relation r: a", "  permission p = r", "\trelation r: a", " caveat c(a num): a == 1", "#", "# a", "//", "a", "nil", "caveat", "caveat ", "caveat c", "caveat c:", "caveat c()", "caveat c(): a == 1", "caveat c(a num)", "caveat c(a num):", "caveat c(a num): ", "caveat c(a num) : a == 1", "caveat c(a num):a == 1", "caveat c (a num): a == 1", "caveat c( a num): a == 1", "caveat c(a num ): a == 1", "caveat c(a  num): a == 1", "caveat c(a): a == 1", "caveat c(num): a == 1", "caveat c(a num,b num): a == 1", "caveat c(a num,  b num): a == 1", "caveat c(a num, ): a == 1", "caveat c(, a num): a == 1", "caveat c(a num b num): a == 1", "caveat c(a num; b num): a == 1", "caveat c(a Num): a == 1", "caveat c(a int): a == 1", "caveat c(a numb): a == 1", "caveat c(a nu): a == 1", "caveat c(a num1): a == 1", "caveat c(a 2): a == 1", "caveat c(1 num): a == 1", "caveat c(a num)): a == 1", "caveat c((a num): a == 1", "caveat 1(a num): a == 1", "caveat (a num): a == 1", "Caveat c(a num): a == 1", "caveat  c(a num): a == 1",
		" relation", " relation ", " relation r", " relation r:", " relation r: ", " relation r:a", " relation r : a", " relation  r: a", " relation r:  a", " relation r: a ", " relation r: a |", " relation r: a | ", " relation r: | a", " relation r: a|a", " relation r: a || a", " relation r: a | | a", " relation r: a a", " relation r: a, a", " relation r = a", " relation : a", " relation 1: a", " relation r: 1", " relation r: a#", " relation r: #r", " relation r: a #r", " relation r: a# r", " relation r: a#r#r", " relation r: a#*", " relation r: a#r:*", " relation r: a:*#r", " relation r: a:", " relation r: a:a", " relation r: a: *", " relation r: a:**", " relation r: *", " relation r: a*", " relation r: a with", " relation r: a with ", " relation r: a with 1", " relation r: a with c d", " relation r: a with c with c", " relation r: a  with c", " relation r: a with  c", " relation r: awith c", " relation r: a with c#r", " relation r: a with c:*", " relation r: with c", " relation r: a With c", " relation r: a-b", " relation r: a->b", " relation r: (a)", " relations r: a", " Relation r: a",
		" permission", " permission ", " permission p", " permission p =", " permission p = ", " permission p=r", " permission p =r", " permission p= r", " permission p  = r", " permission  p = r", " permission p =  r", " permission p = r ", " permission p: r", " permission = r", " permission 1 = r", " permission p == r", " Permission p = r", " permissions p = r",
	}
	for _, body := range wrongBodies() {
		lines = append(lines, " permission p = "+body)
	}
	for _, term := range wrongTerms() {
		lines = append(lines, "caveat c(a num): "+term)
		lines = append(lines, "caveat c(a num): a == 1 && "+term)
		lines = append(lines, "caveat c(a num): "+term+" && a == 1")
	}
	return lines
}

// wrongBodies are what may not stand behind the sign of a permission.
func wrongBodies() []string {
	return []string{
		"1", "r s", "r,s", "r#s", "r:s", "r:*", "*", "-r", "!r", "\"r\"", "r-s", "r +s", "r+ s", "r+s", "r  + s", "r +  s", "r + ", "r +", " + r", "+ r", "r + + s", "r + - s", "r ++ s", "r | s", "r && s", "r & ", "r - ", "r and s", "r / s", "r -> s", "r-> s", "r ->s", "r->", "->r", "r->s->t", "r->1", "1->r", "r>s", "r->*", "r->(s)", "(r)->s",
		"nil->r", "r->nil", "nil->nil", "r + nil->s", "r + s->nil", "r + (s - nil->s)", "nil nil", "nilnil->nil",
		"(r)", "(r + s)", "(r) + s", "((r))", "(nil)", "(r->s)", "(r + s) + t", "(r + s) & (t + u)", "r + (s)", "r + (nil)", "r + (s->t)", "r + ((s + t))", "r + (s + (t))", "r + ((s) + t)", "r + ((s + t) + u)", "r + (s + t", "r + s + t)", "r + (s + t))", "r + ((s + t)", "r + )s + t(", "r + ()", "()", "( r + s)", "r + ( s + t)", "r + (s + t )", "r + (s + t) u", "r +(s + t)", "r + (s + t)- u", "r (+ s)", "r + [s + t]", "(", ")", "r(", "r)", "nil()", "r + (s + t)(u + v)",
	}
}

// wrongTerms are none, wherever they stand.
func wrongTerms() []string {
	terms := []string{
		"a", "a ==", "a == ", "== 1", " == 1", "1 == a", "a = 1", "a != 1", "a > 1", "a >= 1", "a === 1", "a =< 1", "a<1", "a <1", "a< 1", "a==1", "a  == 1", "a ==  1", " a == 1", "a == 1 ", "a == 1 b", "a In 1", "a in", "a in ", "a ain 1", "a inn 1", "a == (1)", "(a == 1)", "a == -a", "a == a b", "a == a-b", "a == a,b", "\"a\" == 1", "true::\"a\" == 1", "a == true::true", "a == b == c", "a == 1 & a == 1", "a == 1 &&& a == 1", "a == 1 and a == 1", "a == 1 || a == 1", "a == 1, a == 1", "a == 1&&a == 1", "a == 1 &&a == 1", "a == 1&& a == 1", "a == 1  && a == 1", "a == 1 &&  a == 1", "a == 1 && && a == 1", "&&", " && ", "a == \"b", "a == \"b\\\"", "a == \"b\"c", "a == \"b\" \"c\"", "a == \"b\"\"c\"", "a == b\"c\"", "a == [1]", "a == {}", "a == 'b'", "a == \"é\"", "a == \"\t\"",
	}
	for _, text := range badAtomTexts() {
		if !wordOnly.MatchString(text) && !strings.Contains(text, "\n") {
			terms = append(terms, "a == "+text)
		}
	}
	return terms
}

// badRelLines are right lines of schemas that are not good, apart from what goes beyond a limit.
func badRelLines() [][]string {
	over := longName("n") + "n"
	return [][]string{
		{"type " + over},
		{"type b", "type a"},
		{"type a", "type a"},
		{"type a", "type b", "type ab"},
		{"type a", "type B"},
		{"type a", " relation r: b"},
		{"type a", " relation r: A"},
		{"type a", " relation r: a | b", "type c"},
		{"type a", " relation r: a#s"},
		{"type a", " relation r: a#nil"},
		{"type a", " relation r: a#a"},
		{"type a", " relation r: b#r", "type b"},
		{"type a", " relation r: b#s", "type b", " relation t: b"},
		{"type a", " relation nil: a"},
		{"type a", " permission nil = nil"},
		{"type a", " relation " + over + ": a"},
		{"type a", " permission " + over + " = nil"},
		{"type a", " relation s: a", " relation r: a"},
		{"type a", " relation r: a", " relation r: a"},
		{"type a", " relation r: a", " relation R: a"},
		{"type a", " permission q = nil", " permission p = nil"},
		{"type a", " permission p = nil", " permission p = nil"},
		{"type a", " relation r: a", " permission r = nil"},
		{"type a", " relation r: a", " relation s: a", " permission q = nil", " permission s = nil"},
		{"type a", " relation r: a | a"},
		{"type a", " relation r: b | a", "type b"},
		{"type a", " relation r: a#r | a"},
		{"type a", " relation r: a#s | a#r", " relation s: a"},
		{"type a", " relation r: a#r | a#r"},
		{"type a", " relation r: a:* | a"},
		{"type a", " relation r: a:* | a:*"},
		{"type a", " relation r: a#r | a:*"},
		{"caveat c(a num): a == 1", "type a", " relation r: a with c | a"},
		{"caveat c(a num): a == 1", "caveat d(a num): a == 1", "type a", " relation r: a with d | a with c"},
		{"caveat c(a num): a == 1", "type a", " relation r: a with c | a with c"},
		{"caveat c(a num): a == 1", "type a", " relation r: a:* | a with c"},
		{"caveat c(a num): a == 1", "type a", " relation r: a with d"},
		{"caveat c(a num): a == 1", "type a", " relation r: a with a"},
		{"type a", " relation r: a with c"},
		{"caveat d(a num): a == 1", "caveat c(a num): a == 1"},
		{"caveat c(a num): a == 1", "caveat c(a num): a == 1"},
		{"caveat " + over + "(a num): a == 1"},
		{"caveat c(" + over + " num): " + over + " == 1"},
		{"caveat c(true num): true == 1"},
		{"caveat c(false num): false == 1"},
		{"caveat c(a bool, true bool): a == true"},
		{"caveat c(a bool): true == a"},
		{"caveat c(a bool): true == true"},
		{"caveat c(a num): a == b"},
		{"caveat c(a num): b == a"},
		{"caveat c(a num): a == nil"},
		{"caveat c(a num): a == \"1\""},
		{"caveat c(a num): a == true"},
		{"caveat c(a num): a in 1"},
		{"caveat c(a num): a in a"},
		{"caveat c(a addr): a < a"},
		{"caveat c(a addr): a <= 10.0.0.0/8"},
		{"caveat c(a bool): a < true"},
		{"caveat c(a bool): a <= a"},
		{"caveat c(a ref): a < a"},
		{"caveat c(a ref): a <= User::\"a\""},
		{"caveat c(a num, b dec): a == b"},
		{"caveat c(a num): a == 1.0000"},
		{"caveat c(a time): a == 1"},
		{"caveat c(b num, a num): a == 1"},
		{"caveat c(a num, a num): a == 1"},
		{"caveat c(a num, a text): a == 1"},
		{"type a", " permission p = q"},
		{"type a", " permission p = p + q"},
		{"type a", " permission p = nil - (nil & q)"},
		{"type a", " permission p = r", "type b", " relation r: b"},
		{"type a", " permission p = r->p"},
		{"type a", " permission p = p->p"},
		{"type a", " permission p = q->p", " permission q = nil"},
		{"type a", " relation r: a", " permission p = r->q"},
		{"type a", " relation r: a", " permission p = a->r"},
		{"type a", " relation r: a:*", " permission p = r->p"},
		{"type a", " relation r: a#r", " permission p = r->p"},
		{"type a", " relation r: a#r | a:*", " permission p = r->r"},
		{"type a", " relation r: a:* | b", " permission p = r->p", "type b"},
		{"type a", " relation r: a#r | b", " permission p = r->p", "type b"},
		{"type a", " relation r: b", " permission p = r->p", "type b", " relation q: b"},
		{"type a", " relation r: a", " permission p = r - p"},
		{"type a", " permission p = nil - p"},
		{"type a", " permission p = nil - (nil - p)"},
		{"type a", " permission p = nil - (p - nil)"},
	}
}

// overRels are schemas that go beyond a limit by one, or far.
func overRels() []impl.RelSchema {
	var all []impl.RelSchema
	add := func(change func(s *impl.RelSchema)) {
		s := fullRel()
		change(&s)
		all = append(all, s)
	}
	add(func(s *impl.RelSchema) {
		s.Caveats = append(s.Caveats, caveatOf("d", countedParams(1), sameTerms(1)...))
	})
	add(func(s *impl.RelSchema) { s.Types = append(s.Types, impl.RelType{Name: "u"}) })
	last := impl.MaxRelTypes - 1
	add(func(s *impl.RelSchema) {
		s.Types[last].Relations = append(s.Types[last].Relations, impl.Relation{Name: "s", Subjects: []impl.SubjectKind{{Type: "t10"}}})
	})
	add(func(s *impl.RelSchema) {
		s.Types[0].Permissions = append(s.Types[0].Permissions, impl.Permission{Name: "q", Body: nilBody()})
	})
	add(func(s *impl.RelSchema) {
		subjects := &s.Types[last].Relations[last].Subjects
		*subjects = append(*subjects, impl.SubjectKind{Type: "t21"})
	})
	add(func(s *impl.RelSchema) { s.Caveats[7].Terms = sameTerms(impl.MaxTerms + 1) })
	add(func(s *impl.RelSchema) { s.Caveats[7].Params = countedParams(impl.MaxTerms + 1) })
	add(func(s *impl.RelSchema) { s.Types[last].Permissions[last].Body = slices.Repeat(nilBody(), 100000) })
	add(func(s *impl.RelSchema) { s.Types = make([]impl.RelType, 3000) })
	add(func(s *impl.RelSchema) { s.Caveats = make([]impl.Caveat, 3000) })
	add(func(s *impl.RelSchema) { s.Types[0].Relations = make([]impl.Relation, 3000) })
	add(func(s *impl.RelSchema) { s.Types[0].Permissions = make([]impl.Permission, 3000) })
	add(func(s *impl.RelSchema) { s.Types[0].Relations[0].Subjects = make([]impl.SubjectKind, 3000) })
	return all
}

// badBodies are no trees, go beyond a limit, or have a node that is not as said.
func badBodies() [][]impl.Rewrite {
	one, two := namedBody("r"), slices.Repeat(namedBody("r"), 2)
	all := [][]impl.Rewrite{
		nil, {}, two, slices.Repeat(nilBody(), 3),
		leftBody(11), rightBody(11), crookedBody(11), leftBody(12), rightBody(2000),
		broadBody(impl.MaxRewrites + 1), broadBody(33), append(broadBody(impl.MaxRewrites-1), one...), broadBody(10001),
		arrowBody("", "r"), arrowBody("r", ""), arrowBody("", ""), arrowBody("p", "r"), arrowBody("r", "nil"), arrowBody("nil", "r"), arrowBody("r", "q"), arrowBody("q", "r"), arrowBody("r", "a"), arrowBody("a", "r"),
		namedBody(""), namedBody("nil"), namedBody("q"), namedBody("a"), namedBody("R"), namedBody("r "),
		{{Kind: impl.RewriteName, Name: "r", Via: "r"}},
		{{Kind: impl.RewriteName, Via: "r"}},
		{{Kind: impl.RewriteNil, Name: "r"}},
		{{Kind: impl.RewriteNil, Via: "r"}},
		pairBody(impl.RewriteUnion, one, namedBody("q")),
		pairBody(impl.RewriteUnion, namedBody("q"), one),
	}
	for kind := impl.RewriteUnion; kind <= impl.RewriteLess; kind++ {
		all = append(all,
			pairBody(kind, nil, nil),
			pairBody(kind, one, nil),
			append(pairBody(kind, one, one), one...),
			append(one, pairBody(kind, one, one)...),
			pairBody(kind, one, pairBody(kind, one, nil)),
			append(slices.Clone(one), pairBody(kind, one, nil)...),
			append([]impl.Rewrite{{Kind: kind, Name: "r"}}, two...),
			append([]impl.Rewrite{{Kind: kind, Via: "r"}}, two...),
			append([]impl.Rewrite{{Kind: kind, Via: "r", Name: "r"}}, two...),
		)
	}
	for _, kind := range []int{math.MinInt, -1, 0, 7, 8, math.MaxInt} {
		all = append(all, []impl.Rewrite{{Kind: kind}}, []impl.Rewrite{{Kind: kind, Name: "r"}}, pairBody(kind, one, one), pairBody(impl.RewriteUnion, one, []impl.Rewrite{{Kind: kind}}))
	}
	return all
}

// badRels are schemas that are not good.
func badRels() []impl.RelSchema {
	bad := overRels()
	for _, lines := range badRelLines() {
		bad = append(bad, relOf(lines...))
	}
	for _, body := range badBodies() {
		bad = append(bad, withBody(body))
	}
	for _, c := range badCaveats() {
		bad = append(bad, impl.RelSchema{Caveats: []impl.Caveat{c}})
	}
	add := func(change func(s *impl.RelSchema)) {
		s := office()
		change(&s)
		bad = append(bad, s)
	}
	for _, word := range badWords() {
		add(func(s *impl.RelSchema) { s.Types[0].Name = word })
		add(func(s *impl.RelSchema) { s.Types[3].Name = word })
		add(func(s *impl.RelSchema) { s.Types[0].Relations[1].Name = word })
		add(func(s *impl.RelSchema) { s.Types[1].Permissions[0].Name = word })
		add(func(s *impl.RelSchema) { s.Types[2].Relations[0].Subjects[1].Type = word })
		bad = append(bad, impl.RelSchema{Types: []impl.RelType{{Name: word}}})
		if word != "" {
			add(func(s *impl.RelSchema) { s.Types[2].Relations[0].Subjects[1].Rel = word })
			add(func(s *impl.RelSchema) { s.Types[2].Relations[0].Subjects[1].Caveat = word })
		}
	}
	add(func(s *impl.RelSchema) { s.Types[2].Relations[0].Subjects = nil })
	add(func(s *impl.RelSchema) { s.Types[2].Relations[0].Subjects = []impl.SubjectKind{} })
	add(func(s *impl.RelSchema) { s.Types[2].Relations[0].Subjects[0].Star = true })
	add(func(s *impl.RelSchema) { s.Types[3].Relations = make([]impl.Relation, 1) })
	add(func(s *impl.RelSchema) { s.Types[3].Permissions = make([]impl.Permission, 1) })
	return append(bad, impl.RelSchema{Types: make([]impl.RelType, 1)}, impl.RelSchema{Caveats: make([]impl.Caveat, 1)})
}

// drawnBody is a body over the type's names, and over arrows to others.
func drawnBody(from *rand.Rand, within int, names []string, arrows [][]impl.Rewrite) []impl.Rewrite {
	if within > 1 && from.Intn(2) == 0 {
		kind := oneOf(from, []int{impl.RewriteUnion, impl.RewriteUnion, impl.RewriteMeet, impl.RewriteMeet, impl.RewriteLess})
		return pairBody(kind, drawnBody(from, within-1, names, arrows), drawnBody(from, within-1, names, arrows))
	}
	switch from.Intn(4) {
	case 0:
		return nilBody()
	case 1:
		if len(arrows) > 0 {
			return slices.Clone(oneOf(from, arrows))
		}
	}
	return namedBody(oneOf(from, names))
}

// drawnSubjects are some of the kinds of subjects that the types allow, in order.
func drawnSubjects(from *rand.Rand, types []string, names map[string][]string, caveats []impl.Caveat) []impl.SubjectKind {
	var out []impl.SubjectKind
	for range 1 + from.Intn(4) {
		k := impl.SubjectKind{Type: oneOf(from, types)}
		switch from.Intn(5) {
		case 0, 1:
			k.Rel = oneOf(from, names[k.Type])
		case 2:
			k.Star = true
		}
		if len(caveats) > 0 && from.Intn(3) == 0 {
			k.Caveat = oneOf(from, caveats).Name
		}
		out = append(out, k)
	}
	slices.SortFunc(out, func(a, b impl.SubjectKind) int { return strings.Compare(subjectKey(a), subjectKey(b)) })
	return slices.Compact(out)
}

// drawnRel is a schema that is good but, it may be, for its strata.
func drawnRel(from *rand.Rand) impl.RelSchema {
	var s impl.RelSchema
	for i := range from.Intn(3) {
		c := drawnCaveat(from)
		c.Name = "c" + strconv.Itoa(i)
		s.Caveats = append(s.Caveats, c)
	}
	types := []string{"a", "b", "c"}[:1+from.Intn(3)]
	names := map[string][]string{}
	for _, typ := range types {
		t := impl.RelType{Name: typ}
		for _, name := range []string{"r", "s", "t"}[from.Intn(3):] {
			t.Relations = append(t.Relations, impl.Relation{Name: name})
			names[typ] = append(names[typ], name)
		}
		for _, name := range []string{"o", "p", "q"}[from.Intn(4):] {
			t.Permissions = append(t.Permissions, impl.Permission{Name: name})
			names[typ] = append(names[typ], name)
		}
		s.Types = append(s.Types, t)
	}
	for _, t := range s.Types {
		var arrows [][]impl.Rewrite
		for i := range t.Relations {
			t.Relations[i].Subjects = drawnSubjects(from, types, names, s.Caveats)
			for _, k := range t.Relations[i].Subjects {
				if k.Rel == "" && !k.Star {
					arrows = append(arrows, arrowBody(t.Relations[i].Name, oneOf(from, names[k.Type])))
				}
			}
		}
		for i := range t.Permissions {
			t.Permissions[i].Body = drawnBody(from, 4, names[t.Name], arrows)
		}
	}
	return s
}

// atomsOfKinds are a few good atoms of each kind, at its number.
func atomsOfKinds() [][]impl.Atom {
	return [][]impl.Atom{
		impl.BoolAtom: {boolAtom(0), boolAtom(1)},
		impl.NumAtom:  {numAtom(-1), numAtom(0), numAtom(1)},
		impl.TextAtom: {textAtom(""), textAtom("a && b"), textAtom("\"), ")},
		impl.RefAtom:  {refAtom("A", "a && b"), refAtom("User", "\"")},
		impl.DecAtom:  {decAtom(-1), decAtom(0), decAtom(1)},
		impl.AddrAtom: {addrAtom(0, 0), addrAtom(10<<24, 8), addrAtom(10<<24+1<<16, 16), addrAtom(11<<24, 8)},
		impl.TimeAtom: {timeAtom(-1), timeAtom(0), timeAtom(1)},
	}
}

// drawnCaveat is a good one.
func drawnCaveat(from *rand.Rand) impl.Caveat {
	c := impl.Caveat{Name: "c"}
	for _, name := range []string{"a", "b", "c", "d"}[from.Intn(4):] {
		c.Params = append(c.Params, param(name, oneOf(from, []int{1, 2, 2, 3, 3, 4, 5, 6, 6, 7})))
	}
	for range 1 + from.Intn(3) {
		left := oneOf(from, c.Params)
		t := impl.CavTerm{Left: left.Name, Op: impl.OpSame}
		if ops := map[int][]int{2: {1, 2, 3}, 3: {1, 2, 3}, 5: {1, 2, 3}, 6: {1, 4, 4}, 7: {1, 2, 3}}[left.Kind]; ops != nil {
			t.Op = oneOf(from, ops)
		}
		if right := oneOf(from, c.Params); right.Kind == left.Kind && from.Intn(2) == 0 {
			t.Param = right.Name
		} else {
			t.Atom = oneOf(from, atomsOfKinds()[left.Kind])
		}
		c.Terms = append(c.Terms, t)
	}
	return c
}

// drawnGiven has most often values of the params' kinds, and some that are none of theirs.
func drawnGiven(from *rand.Rand, params []impl.Param) impl.Value {
	v := recordValue(nil)
	for _, p := range append(slices.Clone(params), param("e", impl.NumAtom)) {
		kind := p.Kind
		if from.Intn(8) == 0 {
			kind = 1 + from.Intn(7)
		}
		v.Names = append(v.Names, p.Name)
		v.Items = append(v.Items, oneOf(from, atomsOfKinds()[kind]))
	}
	return v
}

// partOf is the record with those of its names whose bits are set.
func partOf(v impl.Value, bits int) impl.Value {
	part := recordValue(nil)
	for i := range v.Names {
		if bits>>i&1 == 1 {
			part.Names, part.Items = append(part.Names, v.Names[i]), append(part.Items, v.Items[i])
		}
	}
	return part
}
