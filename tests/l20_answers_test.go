package tests

import (
	"math"
	"reflect"
	"slices"
	"strconv"
	"strings"
	"sync"
	"testing"

	"loop.example/g00036/impl"
)

// assertArguments are all that the functions of the chapter take; plain is what SignDoc signs, signed what is checked.
type assertArguments struct {
	secret int
	kid    string
	plain  []impl.Elem
	id     string
	signed []impl.Elem
	at     int
	text   string
	ring   []impl.Key
	aud    string
	time   int
	seen   []string
}

func (c assertCase) arguments() assertArguments {
	d := docOf(c.around(c.part()))
	return assertArguments{secret: c.secret, kid: c.kid, plain: d, id: c.fields["id"], signed: c.doc(), at: 2, text: elemTextsByWords(d)[0], ring: slices.Clone(c.ring), aud: c.aud, time: c.time, seen: slices.Clone(c.seen)}
}

func plainAssertArguments() assertArguments {
	return plainAssertCase().arguments()
}

// askWords holds all functions of the chapter against the words.
func (a assertArguments) askWords(t *testing.T, what string) {
	t.Helper()
	before := t.Failed()
	for _, d := range [][]impl.Elem{a.plain, a.signed} {
		askDoc(t, d)
		if got, want := impl.DocText(d), partTextByWords(d, 0); got != want {
			t.Errorf("DocText: got %.300q, want %.300q", got, want)
		}
		askPartText(t, d, a.at)
		askSignDoc(t, a.secret, a.kid, d, a.id)
		askCheckDoc(t, a.ring, d, a.time)
		askUse(t, a.ring, d, a.aud, a.time, a.seen)
	}
	askReadDoc(t, a.text)
	if t.Failed() && !before {
		t.Errorf("first with %.200s", what)
	}
}

func TestPlainAssertArguments(t *testing.T) {
	a := plainAssertArguments()
	a.askWords(t, "the plain arguments")
	told := a.ask()
	if told.good != [2]bool{true, true} || slices.Contains(told.texts[:], "") || len(told.read.Nodes) != 6 || len(told.made) != 7 || told.where != 2 || told.errs != [2]int{} || told.who != "ann" {
		t.Errorf("the plain arguments are not taken: %s", told.told())
	}
}

func oddAssertTexts() []string {
	var texts []string
	for i, text := range oddTexts() {
		if i%9 == 0 {
			texts = append(texts, text)
		}
	}
	texts = append(append(append(texts, badWords()...), badIds()...), noNumbers()...)
	for i, text := range append(wrongTexts(), noDocTexts()...) {
		if i%7 == 0 {
			texts = append(texts, text)
		}
	}
	for _, length := range []int{30, 31, 40, 41, 200, 201, 8000, 8001, 20000, 20001, 100000} {
		texts = append(texts, strings.Repeat("w", length), strings.Repeat("<", length), strings.Repeat("<a>", length/3), strings.Repeat("&lt;", length/4), strings.Repeat("\xff", length))
	}
	plain := plainAssertArguments()
	return append(texts, "Signature", "Assertion", "Response", "Subject", "id", "kid", "ref", "sig", "aud", "from", "until", "a0", "a1", "k1", "k2", "api", "20", plain.text, elemTextsByWords(plain.signed)[0])
}

func TestDocsAnswerAtAnyText(t *testing.T) {
	for _, text := range oddAssertTexts() {
		for i, place := range []func(a *assertArguments){
			func(a *assertArguments) { a.kid = text },
			func(a *assertArguments) { a.id = text },
			func(a *assertArguments) { a.plain[0].Name = text },
			func(a *assertArguments) { a.plain[2].Name = text },
			func(a *assertArguments) { a.plain[2].Names[2] = text },
			func(a *assertArguments) { a.plain[2].Values[2] = text },
			func(a *assertArguments) { a.plain[2].Values[2], a.id = text, text },
			func(a *assertArguments) { a.plain[2].Text = text },
			func(a *assertArguments) { a.plain[3].Text = text },
			func(a *assertArguments) { a.signed[0].Name = text },
			func(a *assertArguments) { a.signed[1].Name = text },
			func(a *assertArguments) { a.signed[3].Text = text },
			func(a *assertArguments) { a.signed[5].Name = text },
			func(a *assertArguments) { a.signed[5].Text = text },
			func(a *assertArguments) { a.signed[5].Names[0] = text },
			func(a *assertArguments) { a.signed[5].Values[0] = text },
			func(a *assertArguments) { a.signed[5].Values[1] = text },
			func(a *assertArguments) { a.signed[5].Values[2] = text },
			func(a *assertArguments) { a.signed[2].Values[2], a.signed[5].Values[1] = text, text },
			func(a *assertArguments) { a.ring[1].Id = text },
			func(a *assertArguments) { a.ring[1].Id, a.signed[5].Values[0] = text, text },
			func(a *assertArguments) { a.aud = text },
			func(a *assertArguments) { a.seen[0] = text },
			func(a *assertArguments) { a.text = text },
			func(a *assertArguments) { a.text = `<a b="` + text + `"/>` },
			func(a *assertArguments) { a.text = "<a>" + text + "</a>" },
			func(a *assertArguments) { a.text = "<" + text + "/>" },
		} {
			a := plainAssertArguments()
			place(&a)
			a.askWords(t, "place "+strconv.Itoa(i)+" of "+text)
		}
		// These are signed as they are told.
		for i, place := range []func(c *assertCase){
			func(c *assertCase) { c.kid = text },
			func(c *assertCase) { c.fields["id"] = text },
			func(c *assertCase) { c.fields["aud"] = text },
			func(c *assertCase) { c.fields["from"] = text },
			func(c *assertCase) { c.fields["until"] = text },
			func(c *assertCase) { c.inner = "<Subject>" + docMarks.Replace(text) + "</Subject>" },
		} {
			if len(text) < 2000 && wholeDocText.MatchString(text) {
				c := plainAssertCase()
				place(&c)
				c.arguments().askWords(t, "signed place "+strconv.Itoa(i)+" of "+text)
			}
		}
	}
}

func oddAssertNumbers() []int {
	return append(oddInts(), 4, 5, 6, 7, 9, 10, 11, 49, 50, 51, 59, 60, 61, 4711, lastTime-1, lastTime, lastTime+1, -lastTime, impl.PublicOf(4711))
}

func TestDocsAnswerAtAnyNumbers(t *testing.T) {
	for _, num := range oddAssertNumbers() {
		for i, place := range []func(a *assertArguments){
			func(a *assertArguments) { a.secret = num },
			func(a *assertArguments) { a.plain[0].Kids = num },
			func(a *assertArguments) { a.plain[2].Kids = num },
			func(a *assertArguments) { a.plain[5].Kids = num },
			func(a *assertArguments) { a.plain[0].Kids, a.plain[2].Kids = num, num },
			func(a *assertArguments) { a.signed[0].Kids = num },
			func(a *assertArguments) { a.signed[2].Kids = num },
			func(a *assertArguments) { a.signed[5].Kids = num },
			func(a *assertArguments) { a.signed[2].Kids, a.signed[5].Kids = num, -num },
			func(a *assertArguments) { a.at = num },
			func(a *assertArguments) { a.time = num },
			func(a *assertArguments) { a.ring[1].Public = num },
			func(a *assertArguments) { a.ring[1].From = num },
			func(a *assertArguments) { a.ring[1].Until = num },
			func(a *assertArguments) { a.ring[1].From, a.ring[1].Until, a.time = num, num, num },
			func(a *assertArguments) {
				a.signed[5].Values[2] = sigTextByWords(impl.Sig{R: num & (1<<32 - 1), Z: num & (1<<32 - 1)})
			},
		} {
			a := plainAssertArguments()
			place(&a)
			a.askWords(t, "place "+strconv.Itoa(i)+" of "+strconv.Itoa(num))
		}
		for _, field := range []string{"from", "until"} {
			c := plainAssertCase()
			c.fields[field] = strconv.Itoa(num)
			c.arguments().askWords(t, field+" of "+strconv.Itoa(num))
		}
	}
}

func TestDocsAnswerAtAnyLists(t *testing.T) {
	ask := func(what string, change func(a *assertArguments)) {
		t.Helper()
		a := plainAssertArguments()
		change(&a)
		a.askWords(t, what)
	}
	for _, many := range []int{0, 1, 8, 9, 10, 11, 12, 13, 19, 20, 21, 59, 60, 61, 1000, 1001, 20000} {
		what := strconv.Itoa(many) + " of them"
		ask(what, func(a *assertArguments) { a.plain, a.signed = make([]impl.Elem, many), make([]impl.Elem, many) })
		ask(what, func(a *assertArguments) { a.plain, a.signed = lineOfElems(many), rowOfElems(many) })
		ask(what, func(a *assertArguments) {
			a.plain, a.signed = withIdAt(lineOfElems(min(many, 100)), many-2), withIdAt(rowOfElems(min(many, 100)), 0)
		})
		ask(what, func(a *assertArguments) { a.plain = a.plain[:min(many, len(a.plain))] })
		ask(what, func(a *assertArguments) { a.signed = a.signed[:min(many, len(a.signed))] })
		ask(what, func(a *assertArguments) {
			a.plain[2].Names, a.signed[5].Names = make([]string, many), make([]string, many)
		})
		ask(what, func(a *assertArguments) {
			a.plain[2].Values, a.signed[5].Values = make([]string, many), make([]string, many)
		})
		ask(what, func(a *assertArguments) {
			a.plain[2].Names, a.plain[2].Values = countedNames(many), countedTexts(many)
		})
		ask(what, func(a *assertArguments) { a.ring = make([]impl.Key, many) })
		ask(what, func(a *assertArguments) { a.ring = countedKeys(min(many, 100)) })
		ask(what, func(a *assertArguments) { a.seen = make([]string, many) })
		ask(what, func(a *assertArguments) { a.seen = append(make([]string, many), "a1") })
	}
	for i, d := range append(goodDocs(), badDocs()...) {
		ask("document "+strconv.Itoa(i), func(a *assertArguments) { a.plain, a.signed = d, withIdAt(d, i%5) })
	}
	for i, e := range badElems() {
		ask("element "+strconv.Itoa(i), func(a *assertArguments) { a.plain[3], a.signed[5] = e, e })
	}
	for i, ring := range append(goodRings(), badRings()...) {
		ask("ring "+strconv.Itoa(i), func(a *assertArguments) { a.ring = ring })
	}
	ask("nothing", func(a *assertArguments) { *a = assertArguments{} })
}

func roomyElems(d []impl.Elem) []impl.Elem {
	d = withRoom(d, impl.Elem{Name: "behind"})
	for i, e := range d {
		d[i].Names, d[i].Values = withRoom(e.Names, "behind"), withRoom(e.Values, "behind")
	}
	return d
}

func openedElems(d []impl.Elem) []impl.Elem {
	d = opened(d)
	for i, e := range d {
		d[i].Names, d[i].Values = opened(e.Names), opened(e.Values)
	}
	return d
}

func scribbleElems(d []impl.Elem) {
	for _, e := range d {
		scribble(e.Names, "scribbled")
		scribble(e.Values, "scribbled")
	}
	scribble(d, impl.Elem{Name: "scribbled"})
}

func (a assertArguments) roomy() assertArguments {
	a.plain, a.signed = roomyElems(a.plain), roomyElems(a.signed)
	a.ring, a.seen = withRoom(a.ring, impl.Key{Id: "behind"}), withRoom(a.seen, "behind")
	return a
}

func (a assertArguments) opened() assertArguments {
	a.plain, a.signed = openedElems(a.plain), openedElems(a.signed)
	a.ring, a.seen = opened(a.ring), opened(a.seen)
	return a
}

func (a assertArguments) scribbleOver() {
	scribbleElems(a.plain)
	scribbleElems(a.signed)
	scribble(a.ring, impl.Key{Id: "scribbled"})
	scribble(a.seen, "scribbled")
}

// assertAnswers are all that the functions of the chapter answer.
type assertAnswers struct {
	good  [2]bool
	texts [4]string
	read  impl.DocRes
	made  []impl.Elem
	where int
	who   string
	errs  [2]int
}

func (a assertArguments) ask() assertAnswers {
	var r assertAnswers
	r.good = [2]bool{impl.GoodDoc(a.plain), impl.GoodDoc(a.signed)}
	r.texts = [4]string{impl.DocText(a.plain), impl.DocText(a.signed), impl.PartText(a.plain, a.at), impl.PartText(a.signed, a.at)}
	r.read = impl.ReadDoc(a.text)
	r.made = impl.SignDoc(a.secret, a.kid, a.plain, a.id)
	r.where, r.errs[0] = impl.CheckDoc(a.ring, a.signed, a.time)
	r.who, r.errs[1] = impl.UseAssertion(a.ring, a.signed, a.aud, a.time, a.seen)
	return r
}

// told is all of the answers as a text, in memory of its own.
func (r assertAnswers) told() string {
	return shown(r)
}

func (r assertAnswers) scribbleOver() {
	scribbleElems(r.read.Nodes)
	scribbleElems(r.made)
}

func manyAssertArguments() []assertArguments {
	from, faults := drawn(), assertFaults()
	all := []assertArguments{plainAssertArguments(), {}}
	add := func(change func(a *assertArguments)) {
		a := plainAssertArguments()
		change(&a)
		all = append(all, a)
	}
	for i, d := range append(goodDocs(), badDocs()...) {
		if len(d) < 200 && (i < 40 || i%5 == 0) {
			add(func(a *assertArguments) { a.plain, a.signed, a.at = withIdAt(d, i%3), d, i%4 })
			add(func(a *assertArguments) { a.plain, a.id = withIdAt(d, i%3), "x" })
		}
	}
	for i, text := range append(wrongTexts(), noDocTexts()...) {
		if i%9 == 0 {
			add(func(a *assertArguments) { a.text = text })
		}
	}
	for _, ways := range faults {
		for i, way := range ways {
			if i%3 == 0 {
				c := plainAssertCase()
				way(&c)
				all = append(all, c.arguments())
			}
		}
	}
	for many := range 7 {
		add(func(a *assertArguments) {
			a.plain, a.signed, a.seen = a.plain[:min(many, 6)], a.signed[many:], a.seen[:many%3]
		})
		add(func(a *assertArguments) { a.ring, a.text = a.ring[:many%3], a.text[:len(a.text)*many/6] })
	}
	for range 300 {
		c := plainAssertCase()
		c.secret = drawnSecret(from)
		c.ring = []impl.Key{keyOf("k1", c.secret, 0, 60)}
		c.inner = "<Subject>" + docMarks.Replace(drawnText(from, "abc <&", 9)) + "</Subject>" + drawnElemText(from, 1+from.Intn(4))
		for range from.Intn(2) {
			oneOf(from, faults[1+from.Intn(12)])(&c)
		}
		a := c.arguments()
		if d := drawnDoc(from, 5); from.Intn(2) == 0 {
			a.plain, a.id, a.text = withIdAt(d, from.Intn(len(d))), "x", drawnWay(from, d)
		}
		all = append(all, a)
	}
	turned := plainAssertArguments()
	slices.Reverse(turned.plain)
	slices.Reverse(turned.signed)
	slices.Reverse(turned.ring)
	return append(all, turned)
}

func TestArgumentsOfDocsStayAsTheyWere(t *testing.T) {
	for i, plain := range manyAssertArguments() {
		plain.askWords(t, "arguments "+strconv.Itoa(i))
		a := plain.roomy()
		before := a.opened()
		first := a.ask()
		if !reflect.DeepEqual(a.opened(), before) {
			t.Errorf("arguments %d changed", i)
		}
		first.scribbleOver()
		if !reflect.DeepEqual(a.opened(), before) {
			t.Errorf("arguments %d changed with their answers", i)
		}
	}
}

func TestAnswersOfDocsShareNothing(t *testing.T) {
	lists := 0
	for i, plain := range manyAssertArguments() {
		a := plain.roomy()
		first, second := a.ask(), a.ask()
		spans := slices.Concat(spansOf(reflect.ValueOf(first), "first"), spansOf(reflect.ValueOf(second), "second"))
		own := spansOf(reflect.ValueOf(a), "argument")
		lists += len(spans)
		if found := shared(spans); found != "" {
			t.Errorf("answers %d share memory: %s", i, found)
		}
		for _, s := range spans {
			for _, o := range own {
				if s.from < o.to && o.from < s.to {
					t.Errorf("answers %d share memory: %s and %s", i, s.what, o.what)
				}
			}
		}
		kept := second.told()
		first.scribbleOver()
		a.scribbleOver()
		if second.told() != kept {
			t.Errorf("answers %d changed with their arguments, or with other answers", i)
		}
	}
	if lists < 5000 {
		t.Errorf("only %d lists", lists)
	}
}

func TestAnEmptyListOfDocsIsTheNilList(t *testing.T) {
	room := rowOfElems(3)
	for _, d := range [][]impl.Elem{nil, {}, room[:0]} {
		if impl.GoodDoc(d) || impl.DocText(d) != "" || impl.PartText(d, 0) != "" || impl.SignDoc(9, "k", d, "") != nil {
			t.Errorf("%#v: want no document", d)
		}
		if at, err := impl.CheckDoc(nil, d, 0); at != -1 || err != 1 {
			t.Errorf("CheckDoc: got %d, %d", at, err)
		}
		if who, err := impl.UseAssertion(nil, d, "", 0, nil); who != "" || err != 1 {
			t.Errorf("UseAssertion: got %q, %d", who, err)
		}
	}
	// No fields at all, told in each way.
	for _, none := range [][]string{nil, {}, make([]string, 3)[:0]} {
		for _, also := range [][]string{nil, {}, make([]string, 3)[:0]} {
			d := []impl.Elem{{Name: "a", Names: none, Values: also, Kids: 1}, {Name: "b", Names: []string{"id"}, Values: []string{""}}}
			if !impl.GoodDoc(d) || impl.DocText(d) != `<a><b id=""></b></a>` {
				t.Errorf("%#v: want it good", d)
			}
			signed := impl.SignDoc(9, "k", d, "")
			if at, err := impl.CheckDoc([]impl.Key{keyOf("k", 9, 0, 9)}, signed, 9); len(signed) != 3 || at != 1 || err != 0 {
				t.Errorf("%#v: got %d, %d", signed, at, err)
			}
		}
	}
	for _, keys := range [][]impl.Key{nil, {}, countedKeys(2)[:0]} {
		c := plainAssertCase()
		if at, err := impl.CheckDoc(keys, c.doc(), c.time); at != -1 || err != 6 {
			t.Errorf("CheckDoc: got %d, %d", at, err)
		}
	}
	for _, seen := range [][]string{nil, {}, []string{"a1"}[:0]} {
		c := plainAssertCase()
		if who, err := impl.UseAssertion(c.ring, c.doc(), c.aud, c.time, seen); who != "ann" || err != 0 {
			t.Errorf("UseAssertion: got %q, %d", who, err)
		}
	}
	if got := impl.ReadDoc("<a/>"); len(got.Nodes) != 1 || !reflect.DeepEqual(got, impl.DocRes{Nodes: []impl.Elem{{Name: "a"}}}) {
		t.Errorf("ReadDoc: got %#v", got)
	}
	if got := impl.ReadDoc(""); !reflect.DeepEqual(got, impl.DocRes{Err: 2}) {
		t.Errorf("ReadDoc: got %#v", got)
	}
	if got := impl.PartText(plainAssertArguments().plain, math.MinInt); got != "" {
		t.Errorf("PartText: got %q", got)
	}
}

func TestDocsAnswerTheSameAgain(t *testing.T) {
	for i, a := range manyAssertArguments() {
		first := a.ask().told()
		for range 3 {
			if a.ask().told() != first {
				t.Errorf("answers %d are others when they are asked again", i)
			}
		}
	}
}

// Many ask at once, with the same arguments.
func TestDocsAtOnce(t *testing.T) {
	all := manyAssertArguments()
	var want []string
	for _, a := range all {
		want = append(want, a.ask().told())
	}
	var asking sync.WaitGroup
	for worker := range 8 {
		asking.Add(1)
		go func() {
			defer asking.Done()
			for i := worker % 3; i < len(all); i += 3 {
				if got := all[i].ask().told(); got != want[i] {
					t.Errorf("answers %d are others when many ask", i)
				}
			}
		}()
	}
	asking.Wait()
}
