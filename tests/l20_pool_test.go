package tests

import (
	"maps"
	"math"
	"math/rand"
	"slices"
	"strconv"
	"strings"

	"loop.example/g00036/impl"
)

// docOf is the document, good or not, of a text that is right but for its length.
func docOf(text string) []impl.Elem {
	if at := wrongByteByWords(text); at >= 0 {
		panic("wrong at " + strconv.Itoa(at) + ": " + text)
	}
	return elemsByWords(text)
}

// toldDoc is a document and its text.
type toldDoc struct {
	doc  []impl.Elem
	text string
}

// toldDocs are good documents of every sort, told by hand.
func toldDocs() []toldDoc {
	return []toldDoc{
		{[]impl.Elem{{Name: "a"}}, "<a></a>"},
		{[]impl.Elem{{Name: "_"}}, "<_></_>"},
		{[]impl.Elem{{Name: "Z_9", Text: " "}}, "<Z_9> </Z_9>"},
		{[]impl.Elem{{Name: "a", Text: `&<>"&&amp;'/=`}}, "<a>&amp;&lt;&gt;&quot;&amp;&amp;amp;'/=</a>"},
		{[]impl.Elem{{Name: "a", Names: []string{"b"}, Values: []string{`&<>"&&lt;'/=`}}}, `<a b="&amp;&lt;&gt;&quot;&amp;&amp;lt;'/="></a>`},
		{[]impl.Elem{{Name: "a", Text: "x", Names: []string{"B", "_", "b"}, Values: []string{"", " ", "2"}}}, `<a B="" _=" " b="2">x</a>`},
		{[]impl.Elem{{Name: "a", Kids: 1}, {Name: "a"}}, "<a><a></a></a>"},
		{[]impl.Elem{{Name: "a", Kids: 2}, {Name: "b", Text: "x"}, {Name: "c"}}, "<a><b>x</b><c></c></a>"},
		{[]impl.Elem{{Name: "a", Kids: 2}, {Name: "b", Kids: 1}, {Name: "c", Text: "x"}, {Name: "b", Text: "y"}}, "<a><b><c>x</c></b><b>y</b></a>"},
		{[]impl.Elem{{Name: "a", Kids: 2}, {Name: "b"}, {Name: "c", Kids: 2}, {Name: "d", Kids: 1}, {Name: "e"}, {Name: "f"}}, "<a><b></b><c><d><e></e></d><f></f></c></a>"},
		{[]impl.Elem{{Name: "Signature", Names: []string{"id"}, Values: []string{"id"}, Kids: 1}, {Name: "Signature"}}, `<Signature id="id"><Signature></Signature></Signature>`},
	}
}

// lineOfElems are so many within each other.
func lineOfElems(many int) []impl.Elem {
	line := make([]impl.Elem, many)
	for i := range line {
		line[i] = impl.Elem{Name: "e", Kids: 1}
	}
	if many > 0 {
		line[many-1].Kids = 0
	}
	return line
}

// rowOfElems is one with so many kids.
func rowOfElems(kids int) []impl.Elem {
	row := []impl.Elem{{Name: "row", Kids: kids}}
	for i := range kids {
		row = append(row, impl.Elem{Name: "k" + strconv.Itoa(i)})
	}
	return row
}

// crowdOfElems has so many, at least 4, in three rows.
func crowdOfElems(many int) []impl.Elem {
	crowd := []impl.Elem{{Name: "crowd", Kids: 3}}
	left := many - 4
	for i := range 3 {
		crowd = append(crowd, rowOfElems(left/(3-i))...)
		left -= left / (3 - i)
	}
	return crowd
}

// docOfLength has a text of so many bytes, at least some 300; what is told of it stands in the first element.
func docOfLength(length int, fields string) []impl.Elem {
	kid := func(bytes int) string {
		third := strings.Repeat("x", bytes/3)
		return `<t v="` + third + `" w="` + third + `">` + third + strings.Repeat("y", bytes%3) + "</t>"
	}
	text := "<long" + fields + ">"
	for length-len(text) > 900 {
		text += kid(580)
	}
	left := length - len(text) - len(kid(0)+kid(0)+"</long>")
	return docOf(text + kid(left/2) + kid(left-left/2) + "</long>")
}

func fullElem() impl.Elem {
	e := impl.Elem{Name: longName("N"), Names: countedNames(8), Text: strings.Repeat("~", 200)}
	for range 8 {
		e.Values = append(e.Values, strings.Repeat(" ", 200))
	}
	return e
}

func goodDocs() [][]impl.Elem {
	good := [][]impl.Elem{lineOfElems(12), rowOfElems(19), rowOfElems(20), crowdOfElems(59), crowdOfElems(60), {fullElem()}, {{Name: "a", Text: printedBytes(), Names: []string{"a", "id"}, Values: []string{printedBytes(), ""}}}}
	for _, told := range toldDocs() {
		good = append(good, told.doc)
	}
	for _, length := range []int{600, 7999, 8000, 8001, 9000} {
		good = append(good, docOfLength(length, ""))
	}
	full := crowdOfElems(60)
	for i := range full {
		names, text := fullElem(), ""
		if full[i].Kids == 0 {
			text = names.Text
		}
		full[i].Name, full[i].Names, full[i].Values, full[i].Text = names.Name, names.Names, names.Values, text
	}
	deep := append(lineOfElems(11), impl.Elem{Name: "last", Kids: 0, Text: "x"})
	deep[10].Kids = 1
	deep[4].Names, deep[4].Values = []string{"id"}, []string{"d"}
	return append(good, full, deep)
}

// changedDoc is a copy in which that element is another.
func changedDoc(d []impl.Elem, at int, change func(e *impl.Elem)) []impl.Elem {
	out := slices.Clone(d)
	for i, e := range out {
		out[i].Names, out[i].Values = slices.Clone(e.Names), slices.Clone(e.Values)
	}
	if isBetween(at, 0, len(out)-1) {
		change(&out[at])
	}
	return out
}

// badElems are each a good one with one change.
func badElems() []impl.Elem {
	bad := []impl.Elem{{}, {Text: "x"}}
	add := func(change func(e *impl.Elem)) {
		e := impl.Elem{Name: "e", Names: []string{"b", "d", "f"}, Values: []string{"1", "2", "3"}}
		change(&e)
		bad = append(bad, e)
	}
	for _, word := range badWords() {
		add(func(e *impl.Elem) { e.Name = word })
		add(func(e *impl.Elem) { e.Names[0] = word })
		add(func(e *impl.Elem) { e.Names[2] = word })
	}
	for _, names := range [][]string{{"b", "b", "f"}, {"b", "f", "f"}, {"b", "f", "d"}, {"d", "b", "f"}, {"f", "d", "b"}, {"b", "D", "f"}, {"b", "d"}, {"b", "d", "f", "g"}, {"b"}, nil} {
		add(func(e *impl.Elem) { e.Names = names })
	}
	for _, values := range [][]string{{"1", "2"}, {"1", "2", "3", "4"}, {"1"}, nil} {
		add(func(e *impl.Elem) { e.Values = values })
	}
	for _, many := range []int{9, 10, 200} {
		add(func(e *impl.Elem) { e.Names, e.Values = countedNames(many), countedTexts(many) })
	}
	texts := []string{strings.Repeat("x", 201), strings.Repeat("x", 20000), "\x00", "\x1f", "\x7f", "\x80", "\xff", "a\n", "\ta", "é"}
	for _, text := range texts {
		add(func(e *impl.Elem) { e.Text = text })
		add(func(e *impl.Elem) { e.Values[0] = text })
		add(func(e *impl.Elem) { e.Values[2] = text })
	}
	for _, kids := range []int{math.MinInt, -20, -1, 21, 60, math.MaxInt} {
		add(func(e *impl.Elem) { e.Kids = kids })
	}
	return bad
}

// badDocs have one fault each, or are nothing at all.
func badDocs() [][]impl.Elem {
	a, one, two := impl.Elem{Name: "a"}, impl.Elem{Name: "a", Kids: 1}, impl.Elem{Name: "a", Kids: 2}
	bad := [][]impl.Elem{
		nil, {}, {a, a}, {one}, {two, a}, {one, a, a}, {two, a, a, a}, {a, one}, {one, one}, {one, two, a}, {two, one, a}, {two, one, two, a, a},
		lineOfElems(13), lineOfElems(60), rowOfElems(21), rowOfElems(59), crowdOfElems(61), crowdOfElems(62), make([]impl.Elem, 1), make([]impl.Elem, 60), slices.Repeat([]impl.Elem{a}, 60), lineOfElems(5000), rowOfElems(20000),
		{{Name: "a", Kids: 1, Text: "x"}, a}, {{Name: "a", Kids: 1, Text: " "}, a}, {{Name: "a", Kids: -1}}, {{Name: "a", Kids: -1}, a}, {{Name: "a", Kids: 2}, {Name: "a", Kids: -1}}, {{Name: "a", Kids: 2}, {Name: "a", Kids: -1}, a}, {{Name: "a", Kids: 3}, {Name: "a", Kids: -1}, a},
	}
	for i, e := range badElems() {
		bad = append(bad, []impl.Elem{e}, slices.Insert(rowOfElems(3), 1+i%3, e), slices.Concat([]impl.Elem{one}, []impl.Elem{e}))
	}
	for i, e := range badElems() {
		row := rowOfElems(3)
		row[1+i%3] = e
		bad = append(bad, row)
	}
	return bad
}

// drawnDoc is good but where it has too many kids, elements or bytes.
func drawnDoc(from *rand.Rand, most int) []impl.Elem {
	return docOf(drawnElemText(from, most))
}

func drawnElemText(from *rand.Rand, most int) string {
	name := oneOf(from, []string{"a", "b", "a_1", "_", "Response", "Assertion", "Subject", "Signature", longName("x")})
	text := "<" + name
	for _, field := range drawnNamesOf(from, []string{"A", "aud", "b", "from", "id", "kid", "ref", "sig", "until"}, 4) {
		text += " " + field + `="` + docMarks.Replace(drawnText(from, `ab<>"&;7 `, 6)) + `"`
	}
	text += ">"
	if from.Intn(3) == 0 || most < 2 {
		return text + docMarks.Replace(drawnText(from, `ab<>"&;7 /=`, 9)) + "</" + name + ">"
	}
	for range from.Intn(4) {
		text += drawnElemText(from, most-1)
	}
	return text + "</" + name + ">"
}

// drawnWay tells a document in one of the ways that are read as it: the Names in any order, the end short or not.
func drawnWay(from *rand.Rand, d []impl.Elem) string {
	text, _ := drawnWayOf(from, d)
	return text
}

func drawnWayOf(from *rand.Rand, d []impl.Elem) (string, []impl.Elem) {
	e, rest := d[0], d[1:]
	text := "<" + e.Name
	for _, i := range from.Perm(len(e.Names)) {
		text += " " + e.Names[i] + `="` + docMarks.Replace(e.Values[i]) + `"`
	}
	if e.Kids == 0 && e.Text == "" && from.Intn(2) == 0 {
		return text + "/>", rest
	}
	text += ">" + docMarks.Replace(e.Text)
	for range e.Kids {
		kid, behind := drawnWayOf(from, rest)
		text, rest = text+kid, behind
	}
	return text + "</" + e.Name + ">", rest
}

// assertCase is an assertion, what stands around it, and all that it is used with; the spoils come behind the signing.
type assertCase struct {
	secret int
	kid    string
	name   string
	fields map[string]string
	inner  string
	around func(part string) string
	spoils []func(d []impl.Elem) []impl.Elem
	ring   []impl.Key
	aud    string
	time   int
	seen   []string
}

// plainAssertCase is one of ann's that is taken.
func plainAssertCase() assertCase {
	return assertCase{
		secret: 4711,
		kid:    "k1",
		name:   "Assertion",
		fields: map[string]string{"aud": "api", "from": "10", "id": "a1", "until": "50"},
		inner:  `<Subject>ann</Subject><Role level="3">boss</Role>`,
		around: func(part string) string {
			return `<Response to="web"><Note>hello</Note>` + part + `<Tail></Tail></Response>`
		},
		ring: plainTokenCase().ring,
		aud:  "api",
		time: 20,
		seen: []string{"a0", "a2"},
	}
}

// part is the text of the assertion, as DocText tells it.
func (c assertCase) part() string {
	text := "<" + c.name
	for _, field := range slices.Sorted(maps.Keys(c.fields)) {
		text += " " + field + `="` + docMarks.Replace(c.fields[field]) + `"`
	}
	return elemTextsByWords(docOf(text + ">" + c.inner + "</" + c.name + ">"))[0]
}

func (c assertCase) doc() []impl.Elem {
	part := c.part()
	d := docOf(c.around(part))
	signed := signedAtAnyhow(c.secret, c.kid, d, slices.Index(elemTextsByWords(d), part))
	for _, spoil := range c.spoils {
		signed = spoil(signed)
	}
	return signed
}

// eachNamed changes all elements of that Name.
func eachNamed(name string, change func(e *impl.Elem)) func(d []impl.Elem) []impl.Elem {
	return func(d []impl.Elem) []impl.Elem {
		for i, e := range d {
			if e.Name == name {
				change(&d[i])
			}
		}
		return d
	}
}

// kidAt puts the elements of a text ahead of the kid of that number of the first element of that Name; -1 is the place behind all of them.
func kidAt(name string, place int, text string) func(d []impl.Elem) []impl.Elem {
	return func(d []impl.Elem) []impl.Elem {
		ends := endsByWords(d)
		all := elemsNamedByWords(d, name)
		if ends == nil || len(all) == 0 {
			return d
		}
		parent := all[0]
		at := parent + 1
		for range place {
			if at < ends[parent] {
				at = ends[at]
			}
		}
		if place < 0 {
			at = ends[parent]
		}
		d = slices.Insert(slices.Clone(d), at, docOf(text)...)
		d[parent].Kids++
		return d
	}
}

// takenOut takes the elements of that Name away, with what is in them, but for the first element.
func takenOut(name string) func(d []impl.Elem) []impl.Elem {
	return func(d []impl.Elem) []impl.Elem {
		for {
			all := elemsNamedByWords(d, name)
			ends := endsByWords(d)
			if len(all) == 0 || ends == nil || all[len(all)-1] == 0 {
				return d
			}
			at := all[len(all)-1]
			parent := aroundByWords(d, at)[1]
			d = slices.Delete(slices.Clone(d), at, ends[at])
			d[parent].Kids--
		}
	}
}

// movedTo takes the one element of that Name out, and puts it ahead of a kid of another.
func movedTo(name string, parent string, place int) func(d []impl.Elem) []impl.Elem {
	return func(d []impl.Elem) []impl.Elem {
		all := elemsNamedByWords(d, name)
		if len(all) == 0 || !goodDocByWords(d) {
			return d
		}
		text := elemTextsByWords(d)[all[0]]
		return kidAt(parent, place, text)(takenOut(name)(d))
	}
}

// fieldSet puts a Name where it belongs, or changes its Value.
func fieldSet(name string, value string) func(e *impl.Elem) {
	return func(e *impl.Elem) {
		at, ok := slices.BinarySearch(e.Names, name)
		if ok && at < len(e.Values) {
			e.Values[at] = value
			return
		}
		e.Names = slices.Insert(slices.Clone(e.Names), at, name)
		e.Values = slices.Insert(slices.Clone(e.Values), min(at, len(e.Values)), value)
	}
}

func fieldGone(name string) func(e *impl.Elem) {
	return func(e *impl.Elem) {
		if at := slices.Index(e.Names, name); isBetween(at, 0, len(e.Values)-1) {
			e.Names = slices.Delete(slices.Clone(e.Names), at, at+1)
			e.Values = slices.Delete(slices.Clone(e.Values), at, at+1)
		}
	}
}

func spoilt(spoil func(d []impl.Elem) []impl.Elem) func(c *assertCase) {
	return func(c *assertCase) { c.spoils = append(c.spoils, spoil) }
}

// spoiltElem changes the elements of that Name behind the signing.
func spoiltElem(name string, change func(e *impl.Elem)) func(c *assertCase) {
	return spoilt(eachNamed(name, change))
}

func firstElem(change func(e *impl.Elem)) func(d []impl.Elem) []impl.Elem {
	return func(d []impl.Elem) []impl.Elem {
		if len(d) > 0 {
			change(&d[0])
		}
		return d
	}
}

const otherSignature = `<Signature kid="k2" ref="a1" sig="0000000000000"></Signature>`

// unfitDocs are ways to 1.
func unfitDocs() []func(c *assertCase) {
	return []func(c *assertCase){
		func(c *assertCase) { slices.Reverse(c.ring) },
		func(c *assertCase) { c.ring = append(c.ring, keyOf("k3", 0, 0, 60)) },
		func(c *assertCase) { c.ring = append(c.ring, c.ring...) },
		func(c *assertCase) { c.ring = countedKeys(11) },
		func(c *assertCase) { c.ring = changedKeys(c.ring, "k0", 61, 60) },
		func(c *assertCase) { c.time = -1 },
		func(c *assertCase) { c.time = math.MinInt },
		func(c *assertCase) { c.time = lastTime + 1 },
		func(c *assertCase) { c.time = math.MaxInt },
		spoilt(firstElem(func(e *impl.Elem) { e.Kids++ })),
		spoilt(firstElem(func(e *impl.Elem) { e.Kids-- })),
		spoilt(firstElem(func(e *impl.Elem) { e.Text = "x" })),
		spoilt(firstElem(func(e *impl.Elem) { e.Name = "1" })),
		spoilt(firstElem(func(e *impl.Elem) { e.Names = append(slices.Clone(e.Names), "zz") })),
		spoilt(func(d []impl.Elem) []impl.Elem { return append(d, impl.Elem{Name: "a"}) }),
		spoilt(func(d []impl.Elem) []impl.Elem { return nil }),
		spoilt(func(d []impl.Elem) []impl.Elem { return append(d, make([]impl.Elem, 60)...) }),
	}
}

// unsignedDocs are ways to 2.
func unsignedDocs() []func(c *assertCase) {
	return []func(c *assertCase){
		spoilt(takenOut("Signature")),
		spoiltElem("Signature", func(e *impl.Elem) { e.Name = "signature" }),
		spoiltElem("Signature", func(e *impl.Elem) { e.Name = "Signatures" }),
		spoilt(kidAt("Tail", 0, otherSignature)),
		spoilt(kidAt("Response", 0, otherSignature)),
		spoilt(kidAt("Response", -1, otherSignature)),
		spoilt(kidAt("Assertion", 0, otherSignature)),
		spoilt(kidAt("Assertion", -1, otherSignature)),
		spoilt(kidAt("Signature", 0, otherSignature)),
		spoilt(firstElem(func(e *impl.Elem) { e.Name = "Signature" })),
		spoilt(func(d []impl.Elem) []impl.Elem {
			return firstElem(func(e *impl.Elem) { e.Name = "Signature" })(takenOut("Signature")(d))
		}),
		spoilt(func(d []impl.Elem) []impl.Elem { return docOf(otherSignature) }),
	}
}

// formlessSignatures are ways to 3.
func formlessSignatures() []func(c *assertCase) {
	ways := []func(c *assertCase){
		spoiltElem("Signature", func(e *impl.Elem) { e.Text = "x" }),
		spoiltElem("Signature", func(e *impl.Elem) { e.Text = " " }),
		spoilt(kidAt("Signature", 0, "<a></a>")),
		spoiltElem("Signature", fieldSet("id", "s1")),
		spoiltElem("Signature", fieldSet("alg", "")),
		spoiltElem("Signature", fieldSet("time", "20")),
		spoiltElem("Signature", fieldGone("kid")),
		spoiltElem("Signature", fieldGone("ref")),
		spoiltElem("Signature", fieldGone("sig")),
		spoiltElem("Signature", func(e *impl.Elem) { e.Names, e.Values = nil, nil }),
		spoiltElem("Signature", func(e *impl.Elem) { e.Names = []string{"Kid", "ref", "sig"} }),
		spoiltElem("Signature", func(e *impl.Elem) { e.Names = []string{"kid", "rei", "sig"} }),
		spoiltElem("Signature", func(e *impl.Elem) { e.Names = []string{"kid", "ref", "sigs"} }),
	}
	for _, length := range []int{0, 1, 4, 7, 9, 12, 16} {
		ways = append(ways, spoiltElem("Signature", fieldSet("sig", armorByWords([]byte("abcdefghijklmnop")[:length]))))
	}
	for _, text := range badArmor() {
		if len(text) < 200 && wholeDocText.MatchString(text) {
			ways = append(ways, spoiltElem("Signature", fieldSet("sig", text)))
		}
	}
	for _, change := range []func(text string) string{
		strings.ToUpper,
		func(text string) string { return text + "0" },
		func(text string) string { return text + " " },
		func(text string) string { return " " + text },
		func(text string) string { return text[:12] },
		func(text string) string { return text[1:] },
		// The last letter has one bit too many, which is 0.
		func(text string) string { return text[:12] + "v" },
		func(text string) string { return "-" + text[1:] },
	} {
		ways = append(ways, spoiltElem("Signature", func(e *impl.Elem) {
			if text, _ := fieldByWords(*e, "sig"); len(text) == 13 {
				fieldSet("sig", change(text))(e)
			}
		}))
	}
	return ways
}

// displacedSignatures are ways to 4.
func displacedSignatures() []func(c *assertCase) {
	return []func(c *assertCase){
		spoiltElem("Signature", fieldSet("ref", "a0")),
		spoiltElem("Signature", fieldSet("ref", "A1")),
		spoiltElem("Signature", fieldSet("ref", "a11")),
		spoiltElem("Signature", fieldSet("ref", "")),
		spoiltElem("Signature", fieldSet("ref", "api")),
		spoiltElem("Assertion", fieldSet("id", "a2")),
		spoiltElem("Assertion", fieldSet("id", "")),
		spoiltElem("Assertion", fieldGone("id")),
		spoiltElem("Assertion", func(e *impl.Elem) { fieldGone("id")(e); fieldSet("ID", "a1")(e) }),
		spoilt(movedTo("Signature", "Response", 0)),
		spoilt(movedTo("Signature", "Response", -1)),
		spoilt(movedTo("Signature", "Tail", 0)),
		func(c *assertCase) { delete(c.fields, "id") },
	}
}

// twofoldIds are ways to 5.
func twofoldIds() []func(c *assertCase) {
	return []func(c *assertCase){
		spoiltElem("Note", fieldSet("id", "a1")),
		spoiltElem("Tail", fieldSet("id", "a1")),
		spoiltElem("Response", fieldSet("id", "a1")),
		spoiltElem("Subject", fieldSet("id", "a1")),
		spoilt(kidAt("Response", 0, `<x id="a1"></x>`)),
		spoilt(kidAt("Response", -1, `<x a="0" id="a1" z="1">y</x>`)),
		spoilt(kidAt("Response", -1, `<x><y><z id="a1"></z></y></x>`)),
		spoilt(kidAt("Response", 1, `<Assertion id="a1"></Assertion>`)),
		func(c *assertCase) { c.inner += `<x id="a1"></x>` },
	}
}

// keylessDocs are ways to 6.
func keylessDocs() []func(c *assertCase) {
	return []func(c *assertCase){
		func(c *assertCase) { c.kid = "k3" },
		func(c *assertCase) { c.kid = "K1" },
		func(c *assertCase) { c.kid = "k" },
		func(c *assertCase) { c.kid = "" },
		func(c *assertCase) { c.kid = "no id" },
		func(c *assertCase) {
			c.ring = slices.DeleteFunc(slices.Clone(c.ring), func(k impl.Key) bool { return k.Id == c.kid })
		},
		func(c *assertCase) { c.ring = nil },
		func(c *assertCase) { c.ring = changedKeys(c.ring, "k1", 21, 60) },
		func(c *assertCase) { c.ring = changedKeys(c.ring, "k1", 5, 19) },
		func(c *assertCase) { c.ring = changedKeys(c.ring, "k1", 0, 0) },
		func(c *assertCase) { c.ring = changedKeys(c.ring, "k1", lastTime, lastTime) },
		spoiltElem("Signature", fieldSet("kid", "k4")),
	}
}

// longAssertion has no PartText, for it would be beyond MaxDocText bytes.
func longAssertion(c *assertCase) {
	c.inner += "<s>" + strings.Repeat("<t>"+strings.Repeat("&quot;", 100)+"</t>", 13) + "</s>"
}

// unverifiedDocs are ways to 7.
func unverifiedDocs() []func(c *assertCase) {
	ways := []func(c *assertCase){
		func(c *assertCase) { c.secret = 4712 },
		func(c *assertCase) { c.secret = impl.Order - 4711 },
		spoiltElem("Signature", fieldSet("kid", "k2")),
		spoiltElem("Subject", func(e *impl.Elem) { e.Text = "eve" }),
		spoiltElem("Subject", func(e *impl.Elem) { e.Text += " " }),
		spoiltElem("Subject", func(e *impl.Elem) { e.Name = "Subjects" }),
		spoiltElem("Role", func(e *impl.Elem) { e.Name = "Rule" }),
		spoiltElem("Role", func(e *impl.Elem) { e.Text = "" }),
		spoiltElem("Role", fieldSet("level", "4")),
		spoiltElem("Role", fieldSet("more", "")),
		spoiltElem("Role", fieldGone("level")),
		spoiltElem("Assertion", fieldSet("until", "51")),
		spoiltElem("Assertion", fieldSet("note", "")),
		spoiltElem("Assertion", fieldGone("from")),
		spoilt(takenOut("Role")),
		spoilt(movedTo("Role", "Assertion", 0)),
		spoilt(movedTo("Role", "Response", -1)),
		spoilt(kidAt("Assertion", 0, "<Subject>eve</Subject>")),
		spoilt(kidAt("Assertion", -1, "<Subject>eve</Subject>")),
		spoilt(kidAt("Assertion", 1, "<a></a>")),
		longAssertion,
		// Where there is no PartText a signature of no bytes is none.
		func(c *assertCase) {
			longAssertion(c)
			spoiltElem("Signature", fieldSet("sig", sigTextByWords(impl.Sign(c.secret, nil))))(c)
		},
	}
	for _, sig := range []impl.Sig{{}, {R: 1}, {R: 1, Z: impl.Order - 1}, {R: impl.Prime, Z: 1}, {R: 1, Z: impl.Order}, {R: 1<<32 - 1, Z: 1<<32 - 1}, impl.Sign(4711, nil)} {
		ways = append(ways, spoiltElem("Signature", fieldSet("sig", sigTextByWords(sig))))
	}
	return ways
}

// noAssertions are ways to 8.
func noAssertions() []func(c *assertCase) {
	in := func(ahead string, behind string) func(c *assertCase) {
		return func(c *assertCase) { c.around = func(part string) string { return ahead + part + behind } }
	}
	return []func(c *assertCase){
		func(c *assertCase) { c.name = "assertion" },
		func(c *assertCase) { c.name = "Assertions" },
		func(c *assertCase) { c.name = "Subject" },
		func(c *assertCase) { c.name = "Response" },
		in("<Respons>", "</Respons>"),
		in("<response>", "</response>"),
		in("<Assertion>", "</Assertion>"),
		in("<Response><Box>", "</Box></Response>"),
		in("<Response><Response>", "</Response></Response>"),
		in("<Box><Response>", "</Response></Box>"),
		in("", ""),
		in("<Response><Assertion></Assertion>", "</Response>"),
		in("<Response>", "<Assertion></Assertion></Response>"),
		in("<Response><Box><Assertion></Assertion></Box>", "</Response>"),
		in("<Response><Assertion><Box>", "</Box></Assertion></Response>"),
		spoilt(kidAt("Response", -1, `<Assertion aud="api" from="10" id="a3" until="50"><Subject>eve</Subject></Assertion>`)),
		spoilt(kidAt("Response", 0, `<Assertion aud="api" from="10" id="a3" until="50"><Subject>eve</Subject></Assertion>`)),
		spoiltElem("Note", func(e *impl.Elem) { e.Name = "Assertion" }),
		func(c *assertCase) { c.inner += "<Assertion></Assertion>" },
	}
}

// noNumbers are no whole numbers as chapter 1 tells them, or none that an int holds.
func noNumbers() []string {
	return []string{"", " ", "x", "-", "--1", "+1", "-0", "00", "01", "-01", "1.0", "1.0000", "@10", "1 ", " 1", "1_0", "0x1", "1e1", "\"1\"", "true", "1/0", "9223372036854775808", "-9223372036854775809", strings.Repeat("9", 200)}
}

// untimelyAssertions are ways to 9.
func untimelyAssertions() []func(c *assertCase) {
	ways := []func(c *assertCase){
		func(c *assertCase) { delete(c.fields, "from") },
		func(c *assertCase) { delete(c.fields, "until") },
		func(c *assertCase) { delete(c.fields, "from"); delete(c.fields, "until") },
		func(c *assertCase) { delete(c.fields, "from"); c.fields["From"] = "10" },
	}
	times := [][2]string{{"21", "50"}, {"10", "19"}, {"50", "10"}, {"21", "19"}, {"21", "21"}, {"-50", "-10"}, {"-10", "-1"}, {"10", "-50"}, {"9223372036854775807", "9223372036854775807"}, {"-9223372036854775808", "-9223372036854775808"}, {"21", "9223372036854775807"}, {"-9223372036854775808", "19"}}
	for _, text := range noNumbers() {
		times = append(times, [2]string{text, "50"}, [2]string{"10", text})
	}
	for _, time := range times {
		ways = append(ways, func(c *assertCase) { c.fields["from"], c.fields["until"] = time[0], time[1] })
	}
	return ways
}

// assertionsOfOthers are ways to 10.
func assertionsOfOthers() []func(c *assertCase) {
	return []func(c *assertCase){
		func(c *assertCase) { c.aud = "web" },
		func(c *assertCase) { c.aud = "" },
		func(c *assertCase) { c.aud = "api " },
		func(c *assertCase) { c.aud = "ap" },
		func(c *assertCase) { c.fields["aud"] = "API" },
		func(c *assertCase) { c.fields["aud"] = "" },
		func(c *assertCase) { delete(c.fields, "aud") },
		func(c *assertCase) { delete(c.fields, "aud"); c.aud = "" },
		func(c *assertCase) { delete(c.fields, "aud"); c.fields["Aud"] = "api" },
	}
}

// usedAssertions are ways to 11.
func usedAssertions() []func(c *assertCase) {
	return []func(c *assertCase){
		func(c *assertCase) { c.seen = []string{c.fields["id"]} },
		func(c *assertCase) { c.seen = append([]string{c.fields["id"]}, c.seen...) },
		func(c *assertCase) { c.seen = append(slices.Clone(c.seen), c.fields["id"]) },
		func(c *assertCase) { c.seen = slices.Repeat([]string{c.fields["id"]}, 1000) },
		func(c *assertCase) { c.seen = append(countedTexts(999), c.fields["id"]) },
	}
}

// subjectlessAssertions are ways to 12.
func subjectlessAssertions() []func(c *assertCase) {
	var ways []func(c *assertCase)
	for _, inner := range []string{
		"", "<Role>boss</Role>", "<Subject></Subject>", "<subject>ann</subject>", "<Subjects>ann</Subjects>", "<Subject><a>ann</a></Subject>", "<Subject><Subject>ann</Subject></Subject>", "<Role><Subject>ann</Subject></Role>",
		"<Subject>ann</Subject><Subject>ann</Subject>", "<Subject>ann</Subject><Subject></Subject>", "<Subject></Subject><Subject>ann</Subject>", "<Subject>ann</Subject><Role></Role><Subject>eve</Subject>", "<Subject>ann</Subject><Subject><a></a></Subject>",
	} {
		ways = append(ways, func(c *assertCase) { c.inner = inner })
	}
	return ways
}

// assertFaults are, for each number that UseAssertion tells, ways to come to it.
func assertFaults() [13][]func(c *assertCase) {
	return [13][]func(c *assertCase){
		1: unfitDocs(), 2: unsignedDocs(), 3: formlessSignatures(), 4: displacedSignatures(), 5: twofoldIds(), 6: keylessDocs(), 7: unverifiedDocs(),
		8: noAssertions(), 9: untimelyAssertions(), 10: assertionsOfOthers(), 11: usedAssertions(), 12: subjectlessAssertions(),
	}
}
