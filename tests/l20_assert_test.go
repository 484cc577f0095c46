package tests

import (
	"math"
	"math/rand"
	"regexp"
	"slices"
	"strings"
	"testing"

	"loop.example/g00036/impl"
)

func askDoc(t *testing.T, d []impl.Elem) bool {
	t.Helper()
	got := impl.GoodDoc(d)
	if want := goodDocByWords(d); got != want {
		t.Errorf("GoodDoc(%.300s): got %v", shown(d), got)
	}
	return got
}

// askDocText asks for all parts, too, and for those of some numbers that are none.
func askDocText(t *testing.T, d []impl.Elem) string {
	t.Helper()
	got := impl.DocText(d)
	if want := partTextByWords(d, 0); got != want {
		t.Errorf("DocText(%.300s): got %.300q, want %.300q", shown(d), got, want)
	}
	for at := -2; at < min(len(d), 62)+2; at++ {
		askPartText(t, d, at)
	}
	for _, at := range []int{math.MinInt, -60, 60, math.MaxInt} {
		askPartText(t, d, at)
	}
	return got
}

func askPartText(t *testing.T, d []impl.Elem, at int) string {
	t.Helper()
	got := impl.PartText(d, at)
	if want := partTextByWords(d, at); got != want {
		t.Errorf("PartText(%.300s, %d): got %.300q, want %.300q", shown(d), at, got, want)
	}
	return got
}

func askReadDoc(t *testing.T, text string) impl.DocRes {
	t.Helper()
	got := impl.ReadDoc(text)
	want := readDocByWords(text)
	if got.Err != want.Err || got.At != want.At || !sameDoc(got.Nodes, want.Nodes) {
		t.Errorf("ReadDoc(%.300q): got %.300s, want %.300s", text, shown(got), shown(want))
	}
	return got
}

func askSignDoc(t *testing.T, secret int, kid string, d []impl.Elem, id string) []impl.Elem {
	t.Helper()
	got := impl.SignDoc(secret, kid, d, id)
	if want := signDocByWords(secret, kid, d, id); !sameDoc(got, want) {
		t.Errorf("SignDoc(%d, %.100q, %.300s, %.100q): got %.300s, want %.300s", secret, kid, shown(d), id, shown(got), shown(want))
	}
	return got
}

func askCheckDoc(t *testing.T, ring []impl.Key, d []impl.Elem, time int) (int, int) {
	t.Helper()
	at, err := impl.CheckDoc(ring, d, time)
	if wantAt, wantErr := checkDocByWords(ring, d, time); at != wantAt || err != wantErr {
		t.Errorf("CheckDoc(%.300s, %.700s, %d): got %d, %d, want %d, %d", shown(ring), shown(d), time, at, err, wantAt, wantErr)
	}
	return at, err
}

func askUse(t *testing.T, ring []impl.Key, d []impl.Elem, aud string, time int, seen []string) (string, int) {
	t.Helper()
	who, err := impl.UseAssertion(ring, d, aud, time, seen)
	if wantWho, wantErr := useByWords(ring, d, aud, time, seen); who != wantWho || err != wantErr {
		t.Errorf("UseAssertion(%.300s, %.700s, %.100q, %d, %.100q): got %q, %d, want %q, %d", shown(ring), shown(d), aud, time, seen, who, err, wantWho, wantErr)
	}
	return who, err
}

// ask is what UseAssertion answers; what CheckDoc answers is held against the words, too.
func (c assertCase) ask(t *testing.T) (string, int) {
	t.Helper()
	d := c.doc()
	askCheckDoc(t, c.ring, d, c.time)
	return askUse(t, c.ring, d, c.aud, c.time, c.seen)
}

func TestDocConstants(t *testing.T) {
	if got, want := []int{impl.MaxElems, impl.MaxFields2, impl.MaxDocText}, []int{60, 8, 8000}; !slices.Equal(got, want) {
		t.Errorf("got %v, want %v", got, want)
	}
}

func TestGoodDoc(t *testing.T) {
	for _, d := range goodDocs() {
		if !askDoc(t, d) {
			t.Errorf("%.300s: want it good", shown(d))
		}
	}
	for _, d := range badDocs() {
		if askDoc(t, d) {
			t.Errorf("%.300s: want it not good", shown(d))
		}
	}
}

func TestGoodDocAtItsLimits(t *testing.T) {
	for many := range 70 {
		for what, asked := range map[string]struct {
			doc  []impl.Elem
			good bool
		}{
			"elements within each other": {lineOfElems(many), isBetween(many, 1, 12)},
			"kids":                       {rowOfElems(many), many <= 20},
			"elements":                   {crowdOfElems(max(many, 4)), many <= 60},
			"Names":                      {[]impl.Elem{{Name: "a", Names: countedNames(many), Values: countedTexts(many)}}, many <= 8},
			"bytes of a Name":            {[]impl.Elem{{Name: strings.Repeat("n", many)}}, isBetween(many, 1, 30)},
			"bytes of a field's Name":    {[]impl.Elem{{Name: "a", Names: []string{strings.Repeat("n", many)}, Values: []string{""}}}, isBetween(many, 1, 30)},
		} {
			if askDoc(t, asked.doc) != asked.good {
				t.Errorf("%d %s: want %v", many, what, asked.good)
			}
		}
	}
	for length := 190; length < 210; length++ {
		text := strings.Repeat("x", length)
		for _, d := range [][]impl.Elem{{{Name: "a", Text: text}}, {{Name: "a", Names: []string{"b"}, Values: []string{text}}}, {{Name: "a", Kids: 1}, {Name: "b", Text: text}}} {
			if askDoc(t, d) != (length <= 200) {
				t.Errorf("%d bytes", length)
			}
		}
	}
}

func TestGoodDocOfEachByte(t *testing.T) {
	for c := range 256 {
		own := string([]byte{byte(c)})
		for _, text := range []string{own, "a" + own, own + "a"} {
			for _, d := range [][]impl.Elem{{{Name: text}}, {{Name: "a", Names: []string{text}, Values: []string{""}}}} {
				askDoc(t, d)
			}
			for _, d := range [][]impl.Elem{{{Name: "a", Text: text}}, {{Name: "a", Names: []string{"a"}, Values: []string{text}}}, {{Name: "a", Kids: 1}, {Name: "b", Text: text}}} {
				if askDoc(t, d) != isBetween(c, 32, 126) {
					t.Errorf("%q", text)
				}
			}
		}
	}
}

// All lists of up to six elements, each with -1 to 4 kids.
func TestGoodDocOfAllSmallShapes(t *testing.T) {
	good := 0
	var grow func(d []impl.Elem)
	grow = func(d []impl.Elem) {
		if askDoc(t, d) {
			good++
			askDocText(t, d)
		}
		if len(d) == 6 {
			return
		}
		for kids := -1; kids < 5; kids++ {
			grow(append(slices.Clone(d), impl.Elem{Name: string([]byte{byte('a' + len(d))}), Kids: kids}))
		}
	}
	grow(nil)
	// 1, 1, 2, 5, 14 and 42 trees, of which one has an element with five kids.
	if good != 64 {
		t.Errorf("%d are good", good)
	}
}

func TestGoodDocOfDrawnTrees(t *testing.T) {
	from := drawn()
	for range 3000 {
		d := drawnDoc(from, 1+from.Intn(14))
		if len(d) < 62 {
			askDoc(t, d)
			askDoc(t, changedDoc(d, from.Intn(len(d)), func(e *impl.Elem) { e.Kids += from.Intn(3) - 1 }))
			askDoc(t, d[:from.Intn(len(d))])
		}
	}
}

func TestDocTextTold(t *testing.T) {
	for _, told := range toldDocs() {
		if got := askDocText(t, told.doc); got != told.text {
			t.Errorf("DocText: got %q, want %q", got, told.text)
		}
		if got := askReadDoc(t, told.text); got.Err != 0 || got.At != 0 || !sameDoc(got.Nodes, told.doc) {
			t.Errorf("ReadDoc(%q): got %s", told.text, shown(got))
		}
	}
}

func TestPartTextTold(t *testing.T) {
	d := docOf(`<a x="1"><b><c>1</c><d></d></b><e y="&lt;">2</e></a>`)
	want := []string{`<a x="1"><b><c>1</c><d></d></b><e y="&lt;">2</e></a>`, "<b><c>1</c><d></d></b>", "<c>1</c>", "<d></d>", `<e y="&lt;">2</e>`}
	for at, text := range want {
		if got := impl.PartText(d, at); got != text {
			t.Errorf("PartText at %d: got %q", at, got)
		}
	}
	for _, at := range []int{math.MinInt, -2, -1, 5, 6, 60, math.MaxInt} {
		if got := impl.PartText(d, at); got != "" {
			t.Errorf("PartText at %d: got %q", at, got)
		}
	}
}

func TestDocTextOfAllDocs(t *testing.T) {
	for _, d := range goodDocs() {
		askDocText(t, d)
	}
	for _, d := range badDocs() {
		if askDocText(t, d) != "" {
			t.Errorf("DocText(%.300s): want nothing", shown(d))
		}
	}
	for c := 32; c < 127; c++ {
		for _, text := range []string{string([]byte{byte(c)}), "&" + string([]byte{byte(c)}), string([]byte{byte(c)}) + ";"} {
			askDocText(t, []impl.Elem{{Name: "a", Text: text}})
			askDocText(t, []impl.Elem{{Name: "a", Names: []string{"b"}, Values: []string{text}}})
		}
	}
}

func TestDocTextAtItsLimit(t *testing.T) {
	for length := 7990; length < 8010; length++ {
		d := docOfLength(length, ` id="x"`)
		text := askDocText(t, d)
		if want := length <= 8000; (text != "") != want || want && len(text) != length {
			t.Errorf("DocText of %d bytes: got %d bytes", length, len(text))
		}
		// Around it there may be more, which has no text then; what is in it has one.
		more := append([]impl.Elem{{Name: "a", Kids: 1}}, d...)
		askDocText(t, more)
		if got := impl.PartText(more, 1); (got != "") != (length <= 8000) || impl.PartText(more, 2) == "" || impl.DocText(more) != "" && length > 7993 {
			t.Errorf("PartText of %d bytes: got %d bytes", length, len(got))
		}
	}
	// Marks are longer than what they stand for.
	for _, mark := range []string{"&", "<", ">", `"`} {
		for many := range 30 {
			d := []impl.Elem{{Name: "a", Kids: 1}}
			d = append(d, rowOfElems(min(many, 20))...)
			for i := range d {
				if d[i].Kids == 0 {
					d[i].Names, d[i].Values, d[i].Text = []string{"b"}, []string{strings.Repeat(mark, 200)}, strings.Repeat("x", many)
				}
			}
			askDocText(t, d)
		}
	}
}

// wrongTexts have a ^ ahead of the byte that may not come there, or at the end of a text that ends early.
func wrongTexts() []string {
	return []string{
		"^", "^ ", "^a", "^a>", "^>", "^/>", "^ <a/>", "^&lt;a/>", "^\n<a/>", "^\xef\xbb\xbf<a/>", "^\"", "^=", "^1", "^\x00",
		"<^", "<^>", "<^1/>", "<^9a/>", "<^0", "<^ a/>", "<^/a>", "<^/>", "<^/", "<^<a/>", "<^-a/>", "<^!-- -->", "<^?xml?>", "<^é/>", "<^š/>", "<^\"a\"/>", "<^=", "<^&amp;a/>", "<^.a/>", "<^:a/>", "<^\x00", "<^\xff",
		"<a^", "<a^-b/>", "<a^=\"\"/>", "<a^\"", "<a^<", "<a^<b/>", "<a^</a>", "<a^&lt;/>", "<a^é/>", "<a^š/>", "<a^š", "<a^\t/>", "<a^\n/>", "<a^:b/>", "<a^.b/>", "<a^;", "<a^'", "<_1^", "<a^\xc5", "<a^\xff/>",
		"<a ^", "<a ^ b=\"\"/>", "<a ^/>", "<a ^>", "<a ^1=\"\"/>", "<a ^9b=\"\"/>", "<a ^=\"\"/>", "<a ^\"\"/>", "<a ^<", "<a ^&amp;", "<a ^é=\"\"/>", "<a ^\tb=\"\"/>", `<a b="" ^`, `<a b="" ^/>`, `<a b="" ^>`, `<a b="" ^ c=""/>`, `<a b="" ^1=""/>`,
		"<a b^", "<a b^/>", "<a b^>", "<a b^ c=\"\"/>", "<a b^ =\"\"/>", "<a b^\"\"/>", "<a b^-c=\"\"/>", "<a b^š=\"\"/>", "<a b^<", "<a b^&", "<a b1^:c=\"\"/>",
		"<a b=^", "<a b=^1/>", "<a b=^'1'/>", "<a b=^ \"\"/>", "<a b=^=\"\"/>", "<a b=^>", "<a b=^/>", "<a b=^&quot;1&quot;/>", "<a b=^c/>",
		`<a b="^`, `<a b="x^`, `<a b="x^<"/>`, `<a b="^<"/>`, `<a b="x^>"/>`, `<a b="^>`, "<a b=\"^\x00\"/>", "<a b=\"^\x1f\"/>", "<a b=\"x^\x7f\"/>", "<a b=\"^\x80\"/>", "<a b=\"x^\xff\"/>", "<a b=\"x^\n\"/>", "<a b=\"^\t\"/>", "<a b=\"^é\"/>",
		`<a b="x^&"/>`, `<a b="^&`, `<a b="^&x;"/>`, `<a b="^&lt"/>`, `<a b="^&lt "/>`, `<a b="^&LT;"/>`, `<a b="^&#60;"/>`, `<a b="^&apos;"/>`, `<a b="^& lt;"/>`, `<a b="^&&lt;"/>`, `<a b="&lt;^&"/>`, `<a b="^&am`, `<a b="^&quot`, `<a b="^&quo;"/>`, `<a b="^&;"/>`, `<a b="^&amp&amp;"/>`, `<a b="^&nbsp;"/>`, "<a b=\"^&\x00", `<a b="&amp;^`, `<a b="^&amp "/>`,
		`<a b=""^`, `<a b=""^c=""/>`, `<a b=""^""/>`, `<a b=""^</a>`, `<a b=""^=""/>`, "<a b=\"\"^\t/>", `<a b=""^1`, `<a b="" c="2"^d`, `<a b=""^&`,
		"<a/^", "<a/^ >", "<a/^/>", "<a/^a>", `<a b=""/^<`, "<a/^<", "<a/^=", "<a/^\"", "<a><b/^ ></a>", "<a/^&",
		"<a>^", "<a>^>", "<a>^\"", "<a>^&", "<a>^&x;</a>", "<a>^\x00", "<a>^\n</a>", "<a>^é</a>", "<a>^\xff</a>", `<a b="">^`,
		"<a><^", "<a><^>", "<a><^ /a>", "<a><^1/>", "<a><^<", "<a><^!", "<a><^=", "<a><^\"", "<a><^&", "<a><^é",
		"<a>x^", "<a>x^>", "<a>x^>y</a>", "<a>x^\"</a>", "<a>x^\x7f</a>", "<a>x^&</a>", "<a>x^&x;</a>", "<a>x^&lt</a>", "<a>x^&amp", "<a> ^\n</a>", "<a>x^é</a>", "<a>&lt;^", "<a>/^",
		"<a>x<^", "<a>x<^b/></a>", "<a>x<^a/></a>", "<a>x<^ /a>", "<a> <^b/></a>", "<a>&lt;<^b/></a>", "<a>x<^<", "<a>x<^a", "<a>x<^>", "<a>/<^b/></a>",
		"<a><b/>^", "<a><b/>^x</a>", "<a><b/>^ </a>", "<a><b></b>^x", "<a><b/>^&lt;</a>", "<a><b/>^/a>", "<a><b/>^\n<b/></a>", "<a><b/>^></a>", "<a><b/>^\"", "<a><b/>^\x00", "<a><b/><^", "<a><b/><^>", "<a><b/><^ b/></a>", "<a><b/><^1/></a>", "<a><b/><b/>^x</a>", "<a><b>x</b>^y</a>",
		"<a></^", "<a></^b>", "<a></^ab>", "<a></^A>", "<ab></^a>", "<ab></^a", "<ab></^b>", "<ab></^ba>", "<ab></^abc>", "<a></^>", "<a></^ a>", "<a></^1>", "<a></^a1>", "<a></^a_>", "<a></^/a>", "<a></^</a>", "<a><b></^a></b></a>", "<a><b/></^b></a>", "<a><b/></^", "<a>x</^b>", "<a>x</^", "<a>x</^aa>", "<a></^é>", "<a></^aB",
		"<a></a^", "<a></a^ >", "<a></a^/>", "<a></a^<", "<a></a^-b>", "<a></a^é>", "<a></a^š>", "<a>x</a^", "<a><b></b^</a>", "<a><b/></a^", "<a></a^\"", "<a></a^=", "<a></a^\x00>",
		"<a/>^x", "<a/>^ ", "<a/>^\n", "<a/>^<b/>", "<a/>^<a/>", "<a/>^<", "<a></a>^</a>", "<a></a>^>", "<a>x</a>^\x00", "<a><b/></a>^<b/>", "<a/>^/", "<a/>^&lt;", "<a/>^<!---->",
	}
}

func TestReadDocTellsTheFirstWrongByte(t *testing.T) {
	for _, marked := range wrongTexts() {
		at := strings.Index(marked, "^")
		text := marked[:at] + marked[at+1:]
		got := askReadDoc(t, text)
		if got.Err != 2 || got.At != at || got.Nodes != nil {
			t.Errorf("ReadDoc(%q): got %s, want it wrong at %d", text, shown(got), at)
		}
		// What comes behind a wrong byte is not looked at, but where the text ended early.
		if at == len(text) {
			continue
		}
		for _, behind := range []string{"<", ">", "\x00", "</a>", `"`, "</a></a>"} {
			if got := impl.ReadDoc(text + behind); !strings.HasPrefix(text[at:], "&") && !strings.HasSuffix(text[:at], "</") && (got.Err != 2 || got.At != at) {
				t.Errorf("ReadDoc(%q): got %s, want it wrong at %d", text+behind, shown(got), at)
			}
		}
	}
}

// All texts of up to four bytes behind each of these beginnings.
func TestReadDocOfAllSmallTexts(t *testing.T) {
	for _, begin := range []string{"", "<a", "<ab", "<a b", `<a b="`, `<a b="x"`, "<a/", "<a>", "<a>x", "<a>x<", "<a><b/>", "<a><b", "<ab></", "<ab></a", "<a></a", "<a/>", "<a><b>x</b><", `<a b="" a=""`} {
		var grow func(text string, left int)
		grow = func(text string, left int) {
			askReadDoc(t, text)
			if left == 0 {
				return
			}
			for _, c := range []byte(`<>/ab1 ="&;`) {
				grow(text+string([]byte{c}), left-1)
			}
		}
		grow(begin, 4)
	}
}

// Each text that is right so far is asked with each byte behind it.
func TestReadDocOfAllNextBytes(t *testing.T) {
	asked := 0
	var grow func(text string, left int)
	grow = func(text string, left int) {
		if at := wrongByteByWords(text); at >= 0 && at < len(text) {
			return
		}
		asked++
		for c := range 256 {
			askReadDoc(t, text+string([]byte{byte(c)}))
		}
		if left == 0 {
			return
		}
		for _, more := range []string{"<", ">", "/", "a", "b", " ", "=", `"`, "&gt;"} {
			grow(text+more, left-1)
		}
	}
	grow("", 6)
	grow(`<a b="`, 4)
	grow("<a><b/>", 4)
	grow("<a>", 4)
	grow("<a></a>", 1)
	if asked < 500 {
		t.Errorf("only %d texts are right so far", asked)
	}
}

var (
	markPlaces   = regexp.MustCompile(`&(?:amp|lt|gt|quot);`)
	closerPlaces = regexp.MustCompile(`</[a-zA-Z0-9_]*`)
)

// cutAt is where a right text is wrong that ends there: within a mark at its &, within the Name behind </ where that begins.
func cutAt(text string, end int) int {
	for _, place := range markPlaces.FindAllStringIndex(text, -1) {
		if place[0] < end && end < place[1] {
			return place[0]
		}
	}
	for _, place := range closerPlaces.FindAllStringIndex(text, -1) {
		if place[0]+2 < end && end < place[1] {
			return place[0] + 2
		}
	}
	return end
}

func TestReadDocOfTextsThatEndEarly(t *testing.T) {
	from := drawn()
	var texts []string
	for _, told := range toldDocs() {
		texts = append(texts, told.text)
	}
	for range 200 {
		texts = append(texts, drawnWay(from, drawnDoc(from, 5)))
	}
	for _, text := range texts {
		for end := range len(text) {
			if got := askReadDoc(t, text[:end]); len(text) <= 8000 && (got.Err != 2 || got.At != cutAt(text, end)) {
				t.Errorf("ReadDoc(%.300q): got %s", text[:end], shown(got))
			}
		}
	}
}

func TestReadDocOfChangedTexts(t *testing.T) {
	from := drawn()
	texts := []string{plainAssertCase().around(plainAssertCase().part()), `<a b="&lt;" c=""><d/><ee>x &amp; y</ee></a>`}
	for range 15 {
		texts = append(texts, drawnWay(from, drawnDoc(from, 4)))
	}
	for i, text := range texts {
		for at := range min(len(text), 200) {
			askReadDoc(t, text[:at]+text[at+1:])
			for c := range 256 {
				if i < 2 || from.Intn(8) == 0 {
					own := string([]byte{byte(c)})
					askReadDoc(t, text[:at]+own+text[at+1:])
					askReadDoc(t, text[:at]+own+text[at:])
				}
			}
		}
	}
}

func TestReadDocInAnyWay(t *testing.T) {
	from := drawn()
	ways := 0
	for range 2000 {
		d := drawnDoc(from, 1+from.Intn(6))
		if !impl.GoodDoc(d) || len(elemTextsByWords(d)[0]) > 8000 {
			continue
		}
		text := impl.DocText(d)
		if got := askReadDoc(t, text); got.Err != 0 || !sameDoc(got.Nodes, d) {
			t.Errorf("ReadDoc(%.300q): got %.300s", text, shown(got))
		}
		for range 3 {
			way := drawnWay(from, d)
			if got := askReadDoc(t, way); got.Err != 0 || got.At != 0 || !sameDoc(got.Nodes, d) {
				t.Errorf("ReadDoc(%.300q): got %.300s", way, shown(got))
			}
			if way != text {
				ways++
			}
		}
	}
	if ways < 1000 {
		t.Errorf("only %d other ways", ways)
	}
}

func TestReadDocTakesNamesInAnyOrder(t *testing.T) {
	want := []impl.Elem{{Name: "x", Names: []string{"A", "a", "aa", "b"}, Values: []string{"1", "2", "3", "4"}}}
	fields := []string{` A="1"`, ` a="2"`, ` aa="3"`, ` b="4"`}
	var place func(text string, left []string)
	place = func(text string, left []string) {
		for i, field := range left {
			place(text+field, slices.Delete(slices.Clone(left), i, i+1))
		}
		if len(left) > 0 {
			return
		}
		for _, end := range []string{"/>", "></x>"} {
			if got := askReadDoc(t, text+end); got.Err != 0 || !sameDoc(got.Nodes, want) {
				t.Errorf("ReadDoc(%q): got %s", text+end, shown(got))
			}
		}
	}
	place("<x", fields)
	for _, twice := range []string{`<x a="" a=""/>`, `<x a="1" b="" a="1"></x>`, `<x b="" a="1" c="" a="2"/>`, `<y><x a="" a=""/></y>`, `<y b="" a="" b=""><x/></y>`} {
		if got := askReadDoc(t, twice); got.Err != 3 || got.At != 0 || got.Nodes != nil {
			t.Errorf("ReadDoc(%q): got %s", twice, shown(got))
		}
	}
}

// noDocTexts are right but for what a document may be.
func noDocTexts() []string {
	long := strings.Repeat("x", 201)
	texts := []string{
		`<a b="" b=""/>`, "<" + longName("n") + "n/>", "<a " + longName("n") + `n=""/>`, `<a b="` + long + `"/>`, "<a>" + long + "</a>", "<a><b>" + long + "</b></a>", "<a>" + strings.Repeat("&quot;", 201) + "</a>", `<a b="` + strings.Repeat("&gt;", 201) + `"/>`,
		strings.Repeat("<a>", 12) + "<a/>" + strings.Repeat("</a>", 12), strings.Repeat("<a>", 1142) + strings.Repeat("</a>", 1142), "<a>" + strings.Repeat("<b/>", 21) + "</a>", "<a>" + strings.Repeat("<b/>", 1998) + "</a>",
	}
	texts = append(texts, elemTextsByWords(crowdOfElems(61))[0])
	fields := ""
	for _, name := range countedNames(9) {
		fields += " " + name + `=""`
	}
	return append(texts, "<a"+fields+"/>", "<a"+strings.Repeat(` b=""`, 1500)+"/>")
}

func TestReadDocOfNoGoodDocument(t *testing.T) {
	for _, text := range noDocTexts() {
		if got := askReadDoc(t, text); got.Err != 3 || got.At != 0 || got.Nodes != nil {
			t.Errorf("ReadDoc(%.300q): got %.300s", text, shown(got))
		}
		// A wrong byte is told first, however far behind it stands.
		if got := askReadDoc(t, text+"x"); len(text) < 8000 && (got.Err != 2 || got.At != len(text)) {
			t.Errorf("ReadDoc(%.300q): got %.300s", text+"x", shown(got))
		}
	}
	for _, text := range []string{"<a>" + strings.Repeat("&quot;", 200) + "</a>", `<a b="` + strings.Repeat("&gt;", 200) + `"/>`, strings.Repeat("<a>", 11) + "<a/>" + strings.Repeat("</a>", 11), "<a>" + strings.Repeat("<b/>", 20) + "</a>", elemTextsByWords(crowdOfElems(60))[0], "<" + longName("n") + "/>", "<a " + longName("n") + `=""/>`} {
		if got := askReadDoc(t, text); got.Err != 0 {
			t.Errorf("ReadDoc(%.300q): got %.300s", text, shown(got))
		}
	}
}

func TestReadDocAtItsLimit(t *testing.T) {
	for length := 7990; length < 8010; length++ {
		got := askReadDoc(t, elemTextsByWords(docOfLength(length, ""))[0])
		if length <= 8000 && (got.Err != 0 || len(got.Nodes) < 10) || length > 8000 && (got.Err != 1 || got.At != 0 || got.Nodes != nil) {
			t.Errorf("%d bytes: got %.300s", length, shown(got))
		}
		for text, at := range map[string]int{
			strings.Repeat("<", length):                  1,
			strings.Repeat("a", length):                  0,
			strings.Repeat("\xff", length):               0,
			"<" + strings.Repeat("a", length-1):          length,
			"<a>" + strings.Repeat("x", length-3):        length,
			`<a b="` + strings.Repeat(" ", length-6):     length,
			strings.Repeat("<a>", 2700)[:length]:         length,
			strings.Repeat("<a>", 2700)[:length-1] + "&": length - 1,
			"<a/>" + strings.Repeat("\n", length-4):      4,
		} {
			got := askReadDoc(t, text)
			if length <= 8000 && (got.Err != 2 || got.At > at || got.At < at-1) || length > 8000 && got.Err != 1 {
				t.Errorf("%.10q of %d bytes: got %.300s, want %d", text, length, shown(got), at)
			}
		}
	}
	for _, length := range []int{20000, 1000000} {
		if got := impl.ReadDoc(strings.Repeat("<a>", length/3)); got.Err != 1 || got.At != 0 || got.Nodes != nil {
			t.Errorf("%d bytes: got %.300s", length, shown(got))
		}
	}
}

// The signatures were worked out outside of the program, from the document's chapter 2 alone.
func TestSignDocTold(t *testing.T) {
	for _, told := range []struct {
		secret int
		kid    string
		id     string
		text   string
		want   string
	}{
		{9, "k1", "a1", `<Response><Assertion aud="api" from="0" id="a1" until="50"><Subject>ann</Subject></Assertion></Response>`, `<Response><Assertion aud="api" from="0" id="a1" until="50"><Subject>ann</Subject><Signature kid="k1" ref="a1" sig="1i0q4bl53i51k"></Signature></Assertion></Response>`},
		{4711, ".", "", `<a id=""/>`, `<a id=""><Signature kid="." ref="" sig="6dcaa2t1jbuj0"></Signature></a>`},
		{1, "k-1", "x", `<b id="y"><a id="x"/><c/></b>`, `<b id="y"><a id="x"><Signature kid="k-1" ref="x" sig="5lri4s0htbt1i"></Signature></a><c></c></b>`},
		{1073741788, "9", "&amp;", `<x><_ id="&amp;amp;" b="&lt;&amp;&quot;&gt;"><c>x &gt; y</c></_></x>`, `<x><_ b="&lt;&amp;&quot;&gt;" id="&amp;amp;"><c>x &gt; y</c><Signature kid="9" ref="&amp;amp;" sig="bv4t2014tjvhk"></Signature></_></x>`},
	} {
		signed := askSignDoc(t, told.secret, told.kid, docOf(told.text), told.id)
		if got := impl.DocText(signed); got != told.want {
			t.Errorf("SignDoc of %s: got %s, want %s", told.text, got, told.want)
		}
		ring := []impl.Key{keyOf(told.kid, told.secret, 7, 9)}
		if at, err := askCheckDoc(t, ring, docOf(told.want), 8); err != 0 || signed[at].Kids == 0 || !slices.Contains(signed[at].Values, told.id) {
			t.Errorf("CheckDoc of %s: got %d, %d", told.want, at, err)
		}
	}
}

func TestSignDocOfNothing(t *testing.T) {
	sign := func(text string, id string) []impl.Elem {
		t.Helper()
		return askSignDoc(t, 9, "k1", docOf(text), id)
	}
	for text, id := range map[string]string{
		`<a id="x"/>`: "y", `<a id="x1"/>`: "x", `<a ID="x"/>`: "x", `<a ref="x"/>`: "x", `<a>x</a>`: "x", `<a id=""/>`: " ", `<a/>`: "", `<x/>`: "x",
		`<a id="x"><b id="x"/></a>`: "x", `<a><b id="x"/><b id="x"/></a>`: "x", `<a><b id="x">y</b><b id="x"/></a>`: "x", `<a><b id="x"><Signature/></b><b id="x"/></a>`: "x", `<a id=""><b id=""/></a>`: "",
		`<a id="x">y</a>`: "x", `<a id="x"> </a>`: "x", `<a><b id="x">y</b></a>`: "x",
		`<a id="x"><Signature/></a>`: "x", `<a id="x"><b/><Signature/><c/></a>`: "x", `<a id="x"><b/><Signature>x</Signature></a>`: "x", `<a><Signature/><b id="x"><Signature/></b></a>`: "x",
	} {
		if got := sign(text, id); got != nil {
			t.Errorf("SignDoc of %s: got %s", text, shown(got))
		}
	}
	for text, want := range map[string]int{
		`<a id="x"/>`: 0, `<a><b/><c><d id="x"/></c></a>`: 3, `<a id="x"><b>y</b></a>`: 0, `<a id="y"><b id="x"/></a>`: 1,
		// Signatures that are no kids of it are left as they are.
		`<Signature id="x"/>`: 0, `<a><Signature/><b id="x"/></a>`: 2, `<a><b id="x"/><Signature/></a>`: 1, `<Signature><b id="x"/></Signature>`: 1, `<a id="x"><b><Signature/></b></a>`: 0, `<a id="x"><signature/></a>`: 0,
	} {
		d := docOf(text)
		if got := sign(text, "x"); len(got) != len(d)+1 || got[want].Kids != d[want].Kids+1 {
			t.Errorf("SignDoc of %s: got %s", text, shown(got))
		}
	}
}

func TestSignDocOfWrongSecretsAndKids(t *testing.T) {
	d := docOf(`<a id="x"/>`)
	for _, secret := range badSecrets() {
		if got := askSignDoc(t, secret, "k", d, "x"); got != nil {
			t.Errorf("secret %d: got %s", secret, shown(got))
		}
	}
	for _, secret := range []int{1, 2, impl.Order - 1, 4711} {
		if got := askSignDoc(t, secret, "k", d, "x"); got == nil {
			t.Errorf("secret %d: got nothing", secret)
		}
	}
	for _, kid := range append(badIds(), strings.Repeat("k", 200), strings.Repeat("k", 201)) {
		if got := askSignDoc(t, 9, kid, d, "x"); got != nil {
			t.Errorf("kid %.50q: got %s", kid, shown(got))
		}
	}
	for _, k := range goodKeys() {
		if got := askSignDoc(t, 9, k.Id, d, "x"); got == nil {
			t.Errorf("kid %q: got nothing", k.Id)
		}
	}
	for c := range 256 {
		askSignDoc(t, 9, string([]byte{byte(c)}), d, "x")
	}
}

// withIdAt gives that element the id x, and takes its Text.
func withIdAt(d []impl.Elem, at int) []impl.Elem {
	return changedDoc(d, at, func(e *impl.Elem) {
		e.Text = ""
		fieldSet("id", "x")(e)
	})
}

func TestSignDocAtTheLimits(t *testing.T) {
	for many := 1; many < 62; many++ {
		for what, asked := range map[string]struct {
			doc  []impl.Elem
			done bool
		}{
			"within each other, of which the last":                  {withIdAt(lineOfElems(many), many-1), many <= 11},
			"within each other, of which the one ahead of the last": {withIdAt(lineOfElems(many), max(many-2, 0)), many <= 12},
			"kids":                    {withIdAt(rowOfElems(many), 0), many <= 19},
			"elements":                {withIdAt(crowdOfElems(max(many, 4)), 1), many <= 59},
			"kids, of which the last": {withIdAt(rowOfElems(many), many), many <= 20},
		} {
			if got := askSignDoc(t, 9, "k", asked.doc, "x"); (got != nil) != asked.done {
				t.Errorf("%d %s: got %.300s", many, what, shown(got))
			}
		}
	}
	for _, d := range badDocs() {
		if len(d) > 100 {
			continue
		}
		for at := range d {
			if got := askSignDoc(t, 9, "k", withIdAt(d, at), "x"); got != nil && !impl.GoodDoc(withIdAt(d, at)) {
				t.Errorf("%.300s: got %.300s", shown(d), shown(got))
			}
		}
	}
}

// What is signed may have as many bytes as a text may, without the signature.
func TestSignDocOfLongParts(t *testing.T) {
	ring := []impl.Key{keyOf("k", 9, 0, 60)}
	for length := 7900; length < 8100; length++ {
		if length > 7905 && length < 7995 || length > 8005 && length < 8095 {
			continue
		}
		d := docOfLength(length, ` id="x"`)
		for number, asked := range [][]impl.Elem{d, append([]impl.Elem{{Name: "a", Kids: 1}}, d...)} {
			if got := askSignDoc(t, 9, "k", asked, "x"); (got != nil) != (length <= 8000) {
				t.Errorf("%d bytes: got %.300s", length, shown(got))
			}
			want, wantErr := number, 0
			if length > 8000 {
				want, wantErr = -1, 7
			}
			if at, err := askCheckDoc(t, ring, signedAtAnyhow(9, "k", asked, number), 5); at != want || err != wantErr {
				t.Errorf("%d bytes: got %d, %d", length, at, err)
			}
			ofNothing := eachNamed("Signature", fieldSet("sig", sigTextByWords(impl.Sign(9, nil))))(signedAtAnyhow(9, "k", asked, number))
			if at, err := askCheckDoc(t, ring, ofNothing, 5); at != -1 || err != 7 {
				t.Errorf("%d bytes, of which none is signed: got %d, %d", length, at, err)
			}
		}
	}
}

// drawnSecret is most often a small one, so that keys come twice.
func drawnSecret(from *rand.Rand) int {
	if from.Intn(4) == 0 {
		return 1 + from.Intn(impl.Order-1)
	}
	return 1 + from.Intn(5)
}

func TestSignedDocsAreChecked(t *testing.T) {
	from := drawn()
	signed := 0
	for range 4000 {
		d := drawnDoc(from, 1+from.Intn(5))
		at := from.Intn(len(d))
		d = changedDoc(d, at, fieldSet("id", oneOf(from, []string{"", "a", "b", "a1", " ", "&"})))
		id, _ := fieldByWords(d[at], "id")
		secret, kid := drawnSecret(from), oneOf(from, []string{"a", "k1", "."})
		got := askSignDoc(t, secret, kid, d, id)
		askCheckDoc(t, []impl.Key{keyOf(kid, secret, 3, 9)}, d, 5)
		if got == nil {
			continue
		}
		where, err := askCheckDoc(t, []impl.Key{keyOf(kid, secret, 3, 9)}, got, 3+from.Intn(7))
		if len(elemsNamedByWords(d, "Signature")) == 0 {
			signed++
			if where != at || err != 0 {
				t.Errorf("%.300s: got %d, %d", shown(got), where, err)
			}
		} else if where != -1 || err != 2 {
			t.Errorf("%.300s: got %d, %d", shown(got), where, err)
		}
		// Without its last kid it is what it was.
		last := endsByWords(got)[at] - 1
		back := changedDoc(slices.Delete(slices.Clone(got), last, last+1), at, func(e *impl.Elem) { e.Kids-- })
		if !sameDoc(back, d) || got[last].Name != "Signature" {
			t.Errorf("%.300s: another document is signed than %.300s", shown(got), shown(d))
		}
	}
	if signed < 300 {
		t.Errorf("only %d are signed", signed)
	}
}

func TestPlainAssertion(t *testing.T) {
	c := plainAssertCase()
	if who, err := c.ask(t); who != "ann" || err != 0 {
		t.Errorf("got %q, %d", who, err)
	}
	if at, err := askCheckDoc(t, c.ring, c.doc(), c.time); at != 2 || err != 0 {
		t.Errorf("got %d, %d", at, err)
	}
	want := `<Response to="web"><Note>hello</Note><Assertion aud="api" from="10" id="a1" until="50"><Subject>ann</Subject><Role level="3">boss</Role><Signature kid="k1" ref="a1" sig="geueu7tvn3hg2"></Signature></Assertion><Tail></Tail></Response>`
	if got := askDocText(t, c.doc()); got != want {
		t.Errorf("got %s", got)
	}
	if got := askSignDoc(t, c.secret, c.kid, docOf(c.around(c.part())), "a1"); !sameDoc(got, c.doc()) {
		t.Errorf("got %s", shown(got))
	}
}

func TestEachFaultOfAssertions(t *testing.T) {
	for number, ways := range assertFaults() {
		for i, way := range ways {
			c := plainAssertCase()
			way(&c)
			who, err := c.ask(t)
			if err != number || who != "" {
				t.Errorf("way %d to %d: got %q, %d", i, number, who, err)
			}
			at, err := impl.CheckDoc(c.ring, c.doc(), c.time)
			if number <= 7 && (at != -1 || err != number) || number > 7 && (at < 0 || err != 0) {
				t.Errorf("way %d to %d: CheckDoc got %d, %d", i, number, at, err)
			}
		}
	}
}

// Two ways to two faults, done both: the one with the lower number is told, where the other does not undo it.
func TestTheFirstFaultOfAssertionsIsTold(t *testing.T) {
	faults := assertFaults()
	for first := 1; first < len(faults); first++ {
		for second := first + 1; second < len(faults); second++ {
			both := 0
			for _, way := range faults[first] {
				for _, other := range faults[second] {
					c := plainAssertCase()
					way(&c)
					other(&c)
					who, err := c.ask(t)
					_, told := useFaults(c.ring, c.doc(), c.aud, c.time, c.seen)
					if !slices.Contains(told, first) || first > 2 && !slices.Contains(told, second) {
						continue
					}
					both++
					if err > first || who != "" {
						t.Errorf("%d and %d: got %q, %d", first, second, who, err)
					}
				}
			}
			if both < 10 {
				t.Errorf("only %d ways to both %d and %d", both, first, second)
			}
		}
	}
}

func TestWhereASignatureStands(t *testing.T) {
	for place := range 4 {
		c := plainAssertCase()
		spoilt(movedTo("Signature", "Assertion", place))(&c)
		d := c.doc()
		if at, err := askCheckDoc(t, c.ring, d, c.time); at != 2 || err != 0 || place < 3 && d[3+place].Name != "Signature" {
			t.Errorf("as kid %d of what is signed: got %d, %d", place, at, err)
		}
		if who, err := c.ask(t); who != "ann" || err != 0 {
			t.Errorf("as kid %d of what is signed: got %q, %d", place, who, err)
		}
	}
	// In what it is no kid of it signs nothing, though the ref is the same.
	for place := -1; place < 4; place++ {
		for _, parent := range []string{"Response", "Tail", "Box", "Deep"} {
			c := plainAssertCase()
			c.inner = "<Subject>ann</Subject><Box><Deep></Deep></Box>"
			spoilt(movedTo("Signature", parent, place))(&c)
			if who, err := c.ask(t); who != "" || err != 4 {
				t.Errorf("as kid %d of %s: got %q, %d", place, parent, who, err)
			}
		}
	}
	// Whatever element is signed, it is that which is told.
	text := `<a id="0"><b id="1"><c id="2"></c><d id="3"><e id="4"></e></d></b><f id="5"></f></a>`
	for at := range 6 {
		signed := askSignDoc(t, 9, "k", docOf(text), string([]byte{byte('0' + at)}))
		if got, err := askCheckDoc(t, []impl.Key{keyOf("k", 9, 0, 60)}, signed, 5); got != at || err != 0 {
			t.Errorf("element %d: got %d, %d", at, got, err)
		}
	}
}

func TestIdsThatComeTwice(t *testing.T) {
	for _, asked := range []struct {
		ahead  string
		behind string
		inner  string
		err    int
	}{
		{"", "", "", 0},
		{`<x id="A1"/>`, `<x id="a11"/>`, `<x id="a"/>`, 0},
		{`<x ID="a1"/>`, `<x ref="a1"/>`, `<x kid="a1"/>`, 0},
		{"<x>a1</x>", "<a1/>", `<x a1="id"/>`, 0},
		{`<x id=""/>`, `<x id=" a1"/>`, `<x id="a1 "/>`, 0},
		{`<x id="b"/><x id="b"/>`, `<x id="b"/>`, `<x id="b"/>`, 0},
		{`<x id="a1"/>`, "", "", 5},
		{"", `<x id="a1"/>`, "", 5},
		{"", "", `<x id="a1"/>`, 5},
		{"", "", `<x><y><z id="a1">x</z></y></x>`, 5},
		{"<x><y>", `</y></x><x><y id="a1" z=""/></x>`, "", 5},
		{`<x id="a1">`, "</x>", "", 5},
		{`<x id="a1"/><x id="a1"/>`, `<x id="a1"/>`, "", 5},
		{`<Assertion id="a1"/>`, "", "", 5},
	} {
		c := plainAssertCase()
		c.inner += asked.inner
		c.around = func(part string) string { return "<Response>" + asked.ahead + part + asked.behind + "</Response>" }
		if _, err := askCheckDoc(t, c.ring, c.doc(), c.time); err != asked.err {
			t.Errorf("%v: got %d", asked, err)
		}
	}
	c := plainAssertCase()
	c.around = func(part string) string { return `<Response id="a1">` + part + "</Response>" }
	if _, err := c.ask(t); err != 5 {
		t.Errorf("the first element has the id, too: got %d", err)
	}
}

func TestTimesOfKeysOfDocs(t *testing.T) {
	for _, span := range [][2]int{{0, 0}, {0, 1}, {5, 5}, {5, 60}, {1, 60}, {0, lastTime}, {lastTime, lastTime}, {lastTime - 1, lastTime}} {
		for _, time := range []int{math.MinInt, -1, 0, 1, 2, span[0] - 1, span[0], span[0] + 1, span[1] - 1, span[1], span[1] + 1, lastTime - 1, lastTime, lastTime + 1, math.MaxInt} {
			c := plainAssertCase()
			c.fields["from"], c.fields["until"] = "-9223372036854775808", "9223372036854775807"
			c.ring, c.time = changedKeys(c.ring, "k1", span[0], span[1]), time
			want := 0
			if time < 0 || time > lastTime {
				want = 1
			} else if time < span[0] || time > span[1] {
				want = 6
			}
			who, err := c.ask(t)
			if err != want || (who == "ann") != (want == 0) {
				t.Errorf("%d in %v: got %q, %d", time, span, who, err)
			}
		}
	}
}

func TestTimesOfAssertions(t *testing.T) {
	numbers := []int{math.MinInt, -lastTime, -1, 0, 1, 5, 19, 20, 21, 60, lastTime, lastTime + 1, math.MaxInt}
	for _, from := range numbers {
		for _, until := range numbers {
			for _, time := range []int{0, 1, 4, 5, 6, 19, 20, 21, 59, 60, 61, lastTime - 1, lastTime} {
				c := plainAssertCase()
				c.ring = changedKeys(c.ring, "k1", 0, lastTime)
				c.fields["from"], c.fields["until"], c.time = shown(from), shown(until), time
				want := 9
				if from <= time && time <= until {
					want = 0
				}
				if _, err := impl.UseAssertion(c.ring, c.doc(), c.aud, time, c.seen); err != want {
					t.Errorf("%d in %d..%d: got %d", time, from, until, err)
				}
			}
		}
	}
	for _, text := range noNumbers() {
		for _, field := range []string{"from", "until"} {
			c := plainAssertCase()
			c.fields[field] = text
			if who, err := c.ask(t); who != "" || err != 9 {
				t.Errorf("%s=%q: got %q, %d", field, text, who, err)
			}
		}
	}
}

func TestSeenAssertions(t *testing.T) {
	for many := 990; many < 1010; many++ {
		for _, place := range []int{-1, 0, 500, many - 1} {
			c := plainAssertCase()
			c.seen = make([]string, many)
			want := 0
			if place >= 0 {
				c.seen[place], want = "a1", 11
			}
			if many > 1000 {
				want = 1
			}
			who, err := c.ask(t)
			if err != want || (who == "ann") != (want == 0) {
				t.Errorf("%d seen: got %q, %d", many, who, err)
			}
		}
	}
	for _, seen := range [][]string{nil, {}, {""}, {"A1"}, {"a"}, {"a11"}, {" a1"}, {"a1 "}, {"id"}, {"api", "ann"}, {strings.Repeat("a1", 50000)}} {
		c := plainAssertCase()
		c.seen = seen
		if who, err := c.ask(t); who != "ann" || err != 0 {
			t.Errorf("%.100q seen: got %q, %d", seen, who, err)
		}
	}
	// Too many are told ahead of all that may be wrong with the document, which CheckDoc is not asked for then.
	for number, ways := range assertFaults() {
		for _, way := range ways {
			c := plainAssertCase()
			way(&c)
			c.seen = make([]string, 1001)
			if who, err := c.ask(t); who != "" || err != 1 {
				t.Errorf("1001 seen, and %d: got %q, %d", number, who, err)
			}
		}
	}
	// Ids are texts like others, the empty one too.
	for _, id := range []string{"", " ", "&", "<a1>", strings.Repeat("x", 200)} {
		c := plainAssertCase()
		c.fields["id"] = id
		if who, err := c.ask(t); who != "ann" || err != 0 {
			t.Errorf("id %q: got %q, %d", id, who, err)
		}
		c.seen = []string{"a1", id}
		if who, err := c.ask(t); who != "" || err != 11 {
			t.Errorf("id %q is seen: got %q, %d", id, who, err)
		}
	}
}

func TestAudiencesOfAssertions(t *testing.T) {
	texts := []string{"", " ", "api", "API", "ap", "apis", "web", "&amp;", "&", `<">`, strings.Repeat("x", 200)}
	for _, own := range texts {
		for _, aud := range append(texts, strings.Repeat("x", 201), "\x00", "\xff") {
			c := plainAssertCase()
			c.fields["aud"], c.aud = own, aud
			want := 10
			if own == aud {
				want = 0
			}
			if _, err := c.ask(t); err != want {
				t.Errorf("%q for %q: got %d", own, aud, err)
			}
		}
	}
}

func TestSubjectsOfAssertions(t *testing.T) {
	for inner, who := range map[string]string{
		"<Subject>ann</Subject>":                                                        "ann",
		"<Role>boss</Role><Subject>ann</Subject><Role/>":                                "ann",
		"<Subject> </Subject>":                                                          " ",
		"<Subject>&lt;&amp;&gt;&quot;</Subject>":                                        `<&>"`,
		`<Subject id="ann" name="eve">bob</Subject>`:                                    "bob",
		"<Role><Subject>eve</Subject></Role><Subject>ann</Subject>":                     "ann",
		"<Subject>ann</Subject><subject>eve</subject><Subjects>eve</Subjects>":          "ann",
		"<Subject>ann</Subject><Box><Subject>eve</Subject><Subject>eve</Subject></Box>": "ann",
		"<Subject>" + strings.Repeat("x", 200) + "</Subject>":                           strings.Repeat("x", 200),
	} {
		c := plainAssertCase()
		c.inner = inner
		if got, err := c.ask(t); got != who || err != 0 {
			t.Errorf("%s: got %q, %d", inner, got, err)
		}
	}
}

// trees are the texts of all trees with so many elements of these: a box has kids, a leaf has none but its own.
type trees struct {
	boxes  []string
	leaves []string
}

func (x trees) of(many int) []string {
	var out []string
	for _, box := range x.boxes {
		for _, kids := range x.forests(many - 1) {
			out = append(out, strings.Replace(box, "*", kids, 1))
		}
	}
	if many == 1 {
		out = append(out, x.leaves...)
	}
	return out
}

func (x trees) forests(many int) []string {
	if many == 0 {
		return []string{""}
	}
	var out []string
	for first := 1; first <= many; first++ {
		for _, own := range x.of(first) {
			for _, behind := range x.forests(many - first) {
				out = append(out, own+behind)
			}
		}
	}
	return out
}

// Whatever is built around what was signed, and of pieces of it: no other subject is told.
func TestOnlySignedSubjectsAreTold(t *testing.T) {
	c := plainAssertCase()
	c.inner = "<Subject>ann</Subject>"
	part := c.part()
	signed := c.doc()
	texts := elemTextsByWords(signed)
	signature := texts[elemsNamedByWords(signed, "Signature")[0]]
	opener := strings.TrimSuffix(part, "<Subject>ann</Subject></Assertion>")
	pieces := trees{
		boxes: []string{
			"<Response>*</Response>", "<Box>*</Box>", opener + "*</Assertion>",
			`<Assertion aud="api" from="0" id="e1" until="99">*</Assertion>`, strings.Replace(signature, "><", ">*<", 1),
		},
		leaves: []string{texts[elemsNamedByWords(signed, "Assertion")[0]], "<Subject>ann</Subject>", "<Subject>eve</Subject>", signature},
	}
	told := map[string]int{}
	for many := 1; many <= 5; many++ {
		asked := pieces
		if many == 5 {
			asked.boxes = append([]string{"<Response>*</Response>"}, pieces.boxes[2:4]...)
		}
		for _, text := range asked.of(many) {
			d := docOf(text)
			who, err := impl.UseAssertion(c.ring, d, c.aud, c.time, c.seen)
			if who != "" && who != "ann" || (who == "ann") != (err == 0) {
				t.Errorf("%s: got %q, %d", text, who, err)
			}
			if who == "ann" && !strings.Contains(strings.Replace(text, signature, "", 1), part) {
				t.Errorf("%s: ann is told, but this is not what was signed", text)
			}
			told[who]++
		}
	}
	if told["ann"] < 50 || told[""] < 20000 {
		t.Errorf("asked %v", told)
	}
}

// What stands beside the assertion may be anything: the subject is the same, or none is told.
func TestWhatStandsBesideAnAssertion(t *testing.T) {
	from := drawn()
	told := map[int]int{}
	for range 4000 {
		c := plainAssertCase()
		ahead, behind := "", ""
		for range from.Intn(4) {
			ahead += drawnElemText(from, 1+from.Intn(4))
			behind += drawnElemText(from, 1+from.Intn(4))
		}
		if from.Intn(2) == 0 {
			ahead, behind = strings.ReplaceAll(ahead, "Signature", "Sign"), strings.ReplaceAll(behind, "Signature", "Sign")
		}
		if from.Intn(2) == 0 {
			ahead, behind = strings.ReplaceAll(ahead, "Assertion", "Assert"), strings.ReplaceAll(behind, "Assertion", "Assert")
		}
		own := drawnText(from, "ab <&", 5)
		c.around = func(part string) string {
			return `<Response id="` + docMarks.Replace(own) + `">` + ahead + part + behind + "</Response>"
		}
		who, err := c.ask(t)
		told[err]++
		if !slices.Contains([]int{0, 1, 2, 8}, err) || (who == "ann") != (err == 0) || who != "" && who != "ann" {
			t.Errorf("between %s and %s: got %q, %d", ahead, behind, who, err)
		}
	}
	for _, err := range []int{0, 2, 8} {
		if told[err] < 100 {
			t.Errorf("only %d are told %d", told[err], err)
		}
	}
}

// Each byte of a text that has been signed is changed to each other, and taken away: of what was signed none may be.
func TestChangedBytesOfAssertions(t *testing.T) {
	c := plainAssertCase()
	text := elemTextsByWords(c.doc())[0]
	begin, end := strings.Index(text, "<Assertion"), strings.Index(text, "<Tail")
	read, kept := 0, 0
	ask := func(at int, changed string) {
		got := impl.ReadDoc(changed)
		if got.Err != 0 || sameDoc(got.Nodes, c.doc()) {
			return
		}
		read++
		who, err := askUse(t, c.ring, got.Nodes, c.aud, c.time, c.seen)
		if who != "" && (who != "ann" || begin <= at && at < end) || (who == "ann") != (err == 0) {
			t.Errorf("%s: got %q, %d", changed, who, err)
		}
		if who == "ann" {
			kept++
		}
	}
	for at := range len(text) {
		ask(at, text[:at]+text[at+1:])
		for c := 32; c < 127; c++ {
			ask(at, text[:at]+string([]byte{byte(c)})+text[at+1:])
			ask(at, text[:at]+string([]byte{byte(c)})+text[at:])
		}
	}
	if read < 10000 || kept < 1000 {
		t.Errorf("%d were read, %d told ann", read, kept)
	}
}

// Two documents that were signed give nothing new when they are put together.
func TestPartsOfTwoAssertions(t *testing.T) {
	one, other := plainAssertCase(), plainAssertCase()
	other.fields["id"], other.inner = "a3", "<Subject>bob</Subject>"
	partOf := func(c assertCase, name string) string {
		d := c.doc()
		return elemTextsByWords(d)[elemsNamedByWords(d, name)[0]]
	}
	ann, bob := partOf(one, "Assertion"), partOf(other, "Assertion")
	annSig, bobSig := partOf(one, "Signature"), partOf(other, "Signature")
	put := func(text string, old string, new string) string { return strings.Replace(text, old, new, 1) }
	annAlone, bobAlone := put(ann, annSig, ""), put(bob, bobSig, "")
	for _, asked := range []struct {
		text string
		want string
	}{
		{ann, "ann 0"},
		{bob, "bob 0"},
		{ann + bob, " 2"},
		{put(ann, annSig, bobSig), " 4"},
		{put(put(ann, annSig, bobSig), `ref="a3"`, `ref="a1"`), " 7"},
		{put(put(ann, annSig, bobSig), `id="a1"`, `id="a3"`), " 7"},
		{put(ann, "<Subject>ann</Subject>", "<Subject>bob</Subject>"), " 7"},
		{ann + bobAlone, " 8"},
		{bobAlone + ann, " 8"},
		{put(bob, bobSig, ann), " 8"},
		{put(bob, bobSig, "<Box>"+ann+"</Box>"), " 8"},
		{put(put(bob, bobSig, annSig), "<Subject>", "<Box>"+annAlone+"</Box><Subject>"), " 4"},
		{put(ann, annSig, annSig+bobAlone), " 7"},
	} {
		who, err := askUse(t, one.ring, docOf("<Response>"+asked.text+"</Response>"), one.aud, one.time, one.seen)
		if got := who + " " + shown(err); got != asked.want {
			t.Errorf("%s: got %q, want %q", asked.text, got, asked.want)
		}
	}
}

// A house that keeps the ids of what it took takes each assertion once, in whatever order and however often they come, and whatever is around them.
func TestAssertionsAreUsedOnce(t *testing.T) {
	from := drawn()
	for range 60 {
		var docs [][]impl.Elem
		var cases []assertCase
		for i, id := range []string{"a1", "a2", "", "A1", "a"} {
			for _, around := range []string{"<Response>*</Response>", `<Response to="x"><Box></Box>*</Response>`} {
				c := plainAssertCase()
				c.fields["id"], c.inner = id, "<Subject>user"+shown(i)+"</Subject>"
				c.around = func(part string) string { return strings.Replace(around, "*", part, 1) }
				docs, cases = append(docs, c.doc()), append(cases, c)
			}
		}
		taken := map[string]int{}
		var seen []string
		for range 60 {
			i := from.Intn(len(docs))
			who, err := askUse(t, cases[i].ring, docs[i], cases[i].aud, 10+from.Intn(41), seen)
			id := cases[i].fields["id"]
			if before := taken[id]; err == 0 && (before > 0 || who != "user"+shown(i/2)) || err != 0 && (before == 0 || err != 11 || who != "") {
				t.Errorf("%q, taken %d times: got %q, %d", id, before, who, err)
			}
			if err == 0 {
				taken[id]++
				seen = append(seen, id)
			}
		}
		if len(seen) != 5 {
			t.Errorf("taken are %q", seen)
		}
	}
}

// Any ways to faults, up to three of them, are held against the words.
func TestDrawnAssertions(t *testing.T) {
	from, faults := drawn(), assertFaults()
	told := map[int]int{}
	for range 20000 {
		c := plainAssertCase()
		c.secret = drawnSecret(from)
		c.ring = []impl.Key{keyOf("k0", 8, 0, 60), keyOf("k1", c.secret, from.Intn(21), 20+from.Intn(41)), keyOf("k2", 7, 0, 60)}
		c.inner = "<Subject>" + docMarks.Replace(drawnText(from, "abc <&", 9)) + "</Subject>" + drawnElemText(from, 1+from.Intn(2))
		for range from.Intn(4) {
			oneOf(from, faults[1+from.Intn(12)])(&c)
		}
		_, err := c.ask(t)
		told[err]++
	}
	for err := range 13 {
		if told[err] < 100 {
			t.Errorf("only %d are told %d", told[err], err)
		}
	}
}
