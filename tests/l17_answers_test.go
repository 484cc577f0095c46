package tests

import (
	"bytes"
	"math"
	"reflect"
	"slices"
	"strconv"
	"strings"
	"sync"
	"testing"

	"loop.example/g00036/impl"
)

// tokenArguments are all that the functions of the chapter take.
type tokenArguments struct {
	secret  int
	kid     string
	claims  impl.Value
	ring    []impl.Key
	text    string
	aud     string
	time    int
	next    impl.Key
	grace   int
	root    []byte
	id      string
	cap     impl.Cap
	term    impl.CavTerm
	given   impl.Value
	capText string
}

func plainTokenArguments() tokenArguments {
	c := plainTokenCase()
	own := capByWords([]byte("root"), "doc1", countedTerms(3)...)
	return tokenArguments{
		secret: c.secret, kid: c.kid, claims: valueOf(c.claimsText()), ring: c.ring, text: c.text(), aud: c.aud, time: c.time,
		next: keyOf("k11", 6, 20, 200), grace: 5,
		root: []byte("root"), id: "doc1", cap: own, term: atomTerm("a", impl.OpMost, textAtom("~")), given: valueOf("{a:1,n:0}"), capText: capTextByWords(own),
	}
}

// askWords holds all functions of the chapter against the words.
func (a tokenArguments) askWords(t *testing.T, what string) {
	t.Helper()
	before := t.Failed()
	askRing(t, a.ring)
	askSign(t, a.secret, a.kid, a.claims)
	askOpen(t, a.ring, a.text, a.aud, a.time)
	askRotate(t, rotateCase{a.ring, a.next, a.time, a.grace})
	askTermText(t, a.term)
	askCap(t, a.root, a.id)
	askLess(t, a.cap, a.term)
	askCheck(t, a.root, a.cap, a.given)
	askCapText(t, a.cap)
	askReadCap(t, a.capText)
	if t.Failed() && !before {
		t.Errorf("first with %.200s", what)
	}
}

func TestPlainTokenArguments(t *testing.T) {
	a := plainTokenArguments()
	a.askWords(t, "the plain arguments")
	told := a.ask()
	if len(told.claims.Names) != 4 || len(told.ring) != 4 || len(told.made.Tag) != 16 || len(told.less.Terms) != 4 || len(told.read.Terms) != 3 {
		t.Errorf("the plain arguments tell too little: %s", told.told())
	}
	if told.err != 0 || told.checked != impl.Yes || told.good != [2]bool{true, true} || slices.Contains(told.texts[:], "") {
		t.Errorf("the plain arguments are not taken: %s", told.told())
	}
}

func oddTokenTexts() []string {
	var texts []string
	for i, text := range oddTexts() {
		if i%9 == 0 {
			texts = append(texts, text)
		}
	}
	texts = append(append(texts, badWords()...), badIds()...)
	for i, text := range append(formless(), noCapTexts()...) {
		if i%5 == 0 {
			texts = append(texts, text)
		}
	}
	for _, length := range []int{30, 31, 40, 41, 64, 65, 200, 201, 4000, 4001, 10000, 10001, 20000, 20001, 100000} {
		texts = append(texts, strings.Repeat("w", length), strings.Repeat("~", length), strings.Repeat("\xff", length))
	}
	plain := plainTokenArguments()
	return append(texts, "k0", "k1", "k2", "k12", "api", "doc1", "doc2", "n", "a", "sub", plain.text, plain.capText)
}

func TestTokensAnswerAtAnyText(t *testing.T) {
	for _, text := range oddTokenTexts() {
		for i, place := range []func(a *tokenArguments){
			func(a *tokenArguments) { a.kid = text },
			func(a *tokenArguments) { a.claims.Names[1] = text },
			func(a *tokenArguments) { a.claims.Items[0].Text = text },
			func(a *tokenArguments) { a.claims.Items[1].Type = text },
			func(a *tokenArguments) { a.ring[1].Id = text },
			func(a *tokenArguments) { a.ring[1].Id, a.kid = text, text },
			func(a *tokenArguments) { a.text = text },
			func(a *tokenArguments) { a.text = signedAnyhow(a.secret, text[:min(len(text), 5000)], "{}") },
			func(a *tokenArguments) { a.text = signedAnyhow(a.secret, "k1", text[:min(len(text), 5000)]) },
			func(a *tokenArguments) { a.text = "v1~k1~" + text + "~" + text },
			func(a *tokenArguments) { a.aud = text },
			func(a *tokenArguments) { a.next.Id = text },
			func(a *tokenArguments) { a.root = []byte(text) },
			func(a *tokenArguments) { a.id = text },
			func(a *tokenArguments) { a.cap.Id = text },
			func(a *tokenArguments) { a.cap.Tag = []byte(text) },
			func(a *tokenArguments) { a.cap.Terms[1].Left = text },
			func(a *tokenArguments) { a.cap.Terms[1].Param = text },
			func(a *tokenArguments) { a.cap.Terms[1].Atom.Text = text },
			func(a *tokenArguments) { a.cap.Terms[1].Atom = textAtom(text) },
			func(a *tokenArguments) { a.term.Left = text },
			func(a *tokenArguments) { a.term.Param = text },
			func(a *tokenArguments) { a.term.Atom.Text = text },
			func(a *tokenArguments) { a.term.Atom.Type = text },
			func(a *tokenArguments) { a.given.Names[0] = text },
			func(a *tokenArguments) { a.given.Items[1] = textAtom(text) },
			func(a *tokenArguments) { a.capText = text },
			func(a *tokenArguments) { a.capText = capTextOf(text, "", a.cap.Tag) },
			func(a *tokenArguments) { a.capText = capTextOf("doc1", text[:min(len(text), 12000)], a.cap.Tag) },
			func(a *tokenArguments) { a.capText = "cap~doc1~" + text + "~" + text },
		} {
			a := plainTokenArguments()
			place(&a)
			a.askWords(t, "place "+strconv.Itoa(i)+" of "+text)
		}
	}
}

func oddTokenNumbers() []int {
	numbers := append(oddInts(), 5, 6, 7, 8, 9, 10, 11, 24, 25, 26, 49, 50, 51, 59, 60, 61, impl.PublicOf(4711), impl.PublicOf(8))
	for _, end := range []int{lastTime, 2 * lastTime} {
		numbers = append(numbers, end-1, end, end+1, -end)
	}
	return numbers
}

func TestTokensAnswerAtAnyNumbers(t *testing.T) {
	for _, num := range oddTokenNumbers() {
		for i, place := range []func(a *tokenArguments){
			func(a *tokenArguments) { a.secret = num },
			func(a *tokenArguments) { a.claims.Kind = num },
			func(a *tokenArguments) { a.claims.Atom.Num = num },
			func(a *tokenArguments) { a.claims.Items[1].Num = num },
			func(a *tokenArguments) { a.claims.Items[1].Kind = num },
			func(a *tokenArguments) { a.ring[1].Public = num },
			func(a *tokenArguments) { a.ring[1].From = num },
			func(a *tokenArguments) { a.ring[1].Until = num },
			func(a *tokenArguments) { a.ring[1].From, a.ring[1].Until = num, num },
			func(a *tokenArguments) { a.time = num },
			func(a *tokenArguments) { a.ring[1].From, a.ring[1].Until, a.time = num, num, num },
			func(a *tokenArguments) { a.grace = num },
			func(a *tokenArguments) { a.time, a.grace = num, num },
			func(a *tokenArguments) { a.time, a.grace, a.ring[1].From, a.ring[1].Until = num, num, 0, lastTime },
			func(a *tokenArguments) { a.next.Public = num },
			func(a *tokenArguments) { a.next.From = num },
			func(a *tokenArguments) { a.next.Until = num },
			func(a *tokenArguments) { a.cap.Terms[1].Op = num },
			func(a *tokenArguments) { a.cap.Terms[1].Atom.Kind = num },
			func(a *tokenArguments) { a.cap.Terms[1].Atom.Num = num },
			func(a *tokenArguments) { a.term.Op = num },
			func(a *tokenArguments) { a.term.Atom.Kind = num },
			func(a *tokenArguments) { a.term.Atom = numAtom(num) },
			func(a *tokenArguments) { a.term = atomTerm("a", impl.OpIn, impl.Atom{Kind: impl.AddrAtom, Num: num}) },
			func(a *tokenArguments) { a.given.Kind = num },
			func(a *tokenArguments) { a.given.Items[1].Num = num },
			func(a *tokenArguments) { a.given.Items[1].Kind = num },
			func(a *tokenArguments) {
				a.text = a.text[:strings.LastIndex(a.text, "~")+1] + sigTextByWords(impl.Sig{R: num & (1<<32 - 1), Z: num & (1<<32 - 1)})
			},
		} {
			a := plainTokenArguments()
			place(&a)
			a.askWords(t, "place "+strconv.Itoa(i)+" of "+strconv.Itoa(num))
		}
	}
}

func TestTokensAnswerAtAnyLists(t *testing.T) {
	ask := func(what string, change func(a *tokenArguments)) {
		t.Helper()
		a := plainTokenArguments()
		change(&a)
		a.askWords(t, what)
	}
	for _, many := range []int{0, 1, 9, 10, 11, 15, 16, 17, 19, 20, 21, 49, 50, 51, 63, 64, 65, 20000, 20001, 100000} {
		what := strconv.Itoa(many) + " of them"
		ask(what, func(a *tokenArguments) { a.ring = make([]impl.Key, many) })
		ask(what, func(a *tokenArguments) { a.ring = countedKeys(min(many, 100)) })
		ask(what, func(a *tokenArguments) { a.claims.Items = make([]impl.Atom, many) })
		ask(what, func(a *tokenArguments) { a.claims.Names = make([]string, many) })
		ask(what, func(a *tokenArguments) { a.claims = recordValue(countedNames(many), countedAtoms(many)...) })
		ask(what, func(a *tokenArguments) { a.given = recordValue(countedNames(many), countedAtoms(many)...) })
		ask(what, func(a *tokenArguments) { a.given.Items = make([]impl.Atom, many) })
		ask(what, func(a *tokenArguments) { a.given.Names = make([]string, many) })
		ask(what, func(a *tokenArguments) { a.root = make([]byte, many) })
		ask(what, func(a *tokenArguments) { a.cap.Tag = make([]byte, many) })
		ask(what, func(a *tokenArguments) { a.cap.Terms = make([]impl.CavTerm, many) })
		ask(what, func(a *tokenArguments) { a.cap.Terms = countedTerms(min(many, 100)) })
		ask(what, func(a *tokenArguments) { a.cap = capByWords(a.root, "doc1", countedTerms(min(many, 100))...) })
	}
	for i, ring := range append(goodRings(), badRings()...) {
		ask("ring "+strconv.Itoa(i), func(a *tokenArguments) { a.ring = ring })
	}
	for i, k := range append(goodKeys(), badKeys()...) {
		ask("key "+strconv.Itoa(i), func(a *tokenArguments) { a.ring[1], a.next = k, k })
	}
	for i, c := range append(goodCaps(), badCaps()...) {
		ask("capability "+strconv.Itoa(i), func(a *tokenArguments) { a.cap, a.given = c, capGivens()[i%len(capGivens())] })
	}
	for i, term := range badCapTerms() {
		ask("term "+strconv.Itoa(i), func(a *tokenArguments) { a.term, a.cap.Terms[2] = term, term })
	}
	for i, v := range badValues() {
		ask("value "+strconv.Itoa(i), func(a *tokenArguments) { a.claims, a.given = v, v })
	}
	ask("nothing", func(a *tokenArguments) { *a = tokenArguments{} })
}

// everyTokenList is the arguments with each of their lists gone through by what is told for its sort.
func (a tokenArguments) everyTokenList(data func([]byte) []byte, values func(impl.Value) impl.Value, keys func([]impl.Key) []impl.Key, terms func([]impl.CavTerm) []impl.CavTerm) tokenArguments {
	a.claims, a.given = values(a.claims), values(a.given)
	a.ring, a.cap.Terms = keys(a.ring), terms(a.cap.Terms)
	a.root, a.cap.Tag = data(a.root), data(a.cap.Tag)
	return a
}

func (a tokenArguments) roomy() tokenArguments {
	return a.everyTokenList(
		func(data []byte) []byte { return withRoom(data, 7) },
		roomyValue,
		func(keys []impl.Key) []impl.Key { return withRoom(keys, impl.Key{Id: "behind"}) },
		func(terms []impl.CavTerm) []impl.CavTerm { return withRoom(terms, impl.CavTerm{Left: "behind"}) },
	)
}

func (a tokenArguments) opened() tokenArguments {
	return a.everyTokenList(opened[byte], openedValue, opened[impl.Key], opened[impl.CavTerm])
}

func scribbledValue(v impl.Value) impl.Value {
	scribble(v.Items, textAtom("scribbled"))
	scribble(v.Names, "scribbled")
	return v
}

func (a tokenArguments) scribbleOver() {
	a.everyTokenList(scribbled[byte](7), scribbledValue, scribbled(impl.Key{Id: "scribbled"}), scribbled(impl.CavTerm{Left: "scribbled"}))
}

// tokenAnswers are all that the functions of the chapter answer.
type tokenAnswers struct {
	good    [2]bool
	texts   [3]string
	claims  impl.Value
	err     int
	ring    []impl.Key
	made    impl.Cap
	less    impl.Cap
	checked int
	read    impl.Cap
}

func (a tokenArguments) ask() tokenAnswers {
	var r tokenAnswers
	r.good[0] = impl.GoodRing(a.ring)
	r.texts[0] = impl.SignToken(a.secret, a.kid, a.claims)
	r.claims, r.err = impl.OpenToken(a.ring, a.text, a.aud, a.time)
	r.ring = impl.RotateRing(a.ring, a.next, a.time, a.grace)
	r.texts[1] = impl.TermText(a.term)
	r.made = impl.MakeCap(a.root, a.id)
	r.less = impl.Attenuate(a.cap, a.term)
	r.checked = impl.CheckCap(a.root, a.cap, a.given)
	r.texts[2] = impl.CapText(a.cap)
	r.read, r.good[1] = impl.ReadCap(a.capText)
	return r
}

// told is all of the answers as a text, in memory of its own.
func (r tokenAnswers) told() string {
	return shown(r)
}

func (r tokenAnswers) scribbleOver() {
	scribbledValue(r.claims)
	scribble(r.ring, impl.Key{Id: "scribbled"})
	for _, c := range []impl.Cap{r.made, r.less, r.read} {
		scribble(c.Terms, impl.CavTerm{Left: "scribbled"})
		scribble(c.Tag, 7)
	}
}

func manyTokenArguments() []tokenArguments {
	from := drawn()
	all := []tokenArguments{plainTokenArguments(), {}}
	add := func(change func(a *tokenArguments)) {
		a := plainTokenArguments()
		change(&a)
		all = append(all, a)
	}
	for i, ring := range append(goodRings(), badRings()...) {
		if len(ring) < 5000 && i%3 == 0 {
			add(func(a *tokenArguments) { a.ring = ring })
		}
	}
	for i, k := range append(goodKeys(), badKeys()...) {
		if i%3 == 0 {
			add(func(a *tokenArguments) { a.next = k })
		}
	}
	for i, c := range append(goodCaps(), badCaps()...) {
		if len(c.Terms) < 5000 && i%5 == 0 {
			add(func(a *tokenArguments) { a.cap, a.capText, a.given = c, capTextByWords(c), oneOf(from, capGivens()) })
		}
	}
	for i, v := range badValues() {
		if i%2 == 0 {
			add(func(a *tokenArguments) { a.claims, a.given = v, v })
		}
	}
	for many := range 22 {
		add(func(a *tokenArguments) {
			a.cap = capByWords(a.root, a.id, countedTerms(min(many, 20))...)
			a.ring, a.root, a.capText = countedKeys(min(many, 10)), a.root[:min(many, 4)], capTextByWords(a.cap)
		})
	}
	for range 300 {
		c, r := drawnTokenCase(from), drawnRotateCase(from)
		root, given := drawnBytes(from, from.Intn(66)), drawnFit(from)
		own := capByWords(root, "doc1", drawnTerms(from, 20)...)
		a := tokenArguments{
			secret: c.secret, kid: c.kid, claims: given, ring: c.ring, text: c.text(), aud: c.aud, time: c.time, next: r.next, grace: r.grace,
			root: root, id: "x" + drawnText(from, "aZ0_.- ", 3), cap: own, term: drawnTerm(from), given: given, capText: capTextByWords(own),
		}
		if from.Intn(2) == 0 {
			a.ring, a.time = r.ring, r.time
		}
		all = append(all, a)
	}
	turned := plainTokenArguments()
	slices.Reverse(turned.ring)
	slices.Reverse(turned.claims.Names)
	slices.Reverse(turned.cap.Terms)
	return append(all, turned)
}

func TestArgumentsOfTokensStayAsTheyWere(t *testing.T) {
	for i, plain := range manyTokenArguments() {
		plain.askWords(t, "arguments "+strconv.Itoa(i))
		a := plain.roomy()
		before := a.opened()
		first := a.ask()
		if !reflect.DeepEqual(a.opened(), before) {
			t.Errorf("arguments %d changed", i)
		}
		first.scribbleOver()
		if !reflect.DeepEqual(a.opened(), before) {
			t.Errorf("arguments %d changed with their answers", i)
		}
	}
}

func TestAnswersOfTokensShareNothing(t *testing.T) {
	lists := 0
	for i, plain := range manyTokenArguments() {
		a := plain.roomy()
		first, second := a.ask(), a.ask()
		spans := slices.Concat(spansOf(reflect.ValueOf(first), "first"), spansOf(reflect.ValueOf(second), "second"))
		own := spansOf(reflect.ValueOf(a), "argument")
		lists += len(spans)
		if found := shared(spans); found != "" {
			t.Errorf("answers %d share memory: %s", i, found)
		}
		for _, s := range spans {
			for _, o := range own {
				if s.from < o.to && o.from < s.to {
					t.Errorf("answers %d share memory: %s and %s", i, s.what, o.what)
				}
			}
		}
		kept := second.told()
		first.scribbleOver()
		a.scribbleOver()
		if second.told() != kept {
			t.Errorf("answers %d changed with their arguments, or with other answers", i)
		}
	}
	if lists < 4000 {
		t.Errorf("only %d lists", lists)
	}
}

func TestAnEmptyListOfTokensIsTheNilList(t *testing.T) {
	next := keyOf("k", 9, 0, 60)
	for _, ring := range [][]impl.Key{nil, {}, countedKeys(3)[:0]} {
		if !impl.GoodRing(ring) || !slices.Equal(impl.RotateRing(ring, next, 20, 5), []impl.Key{next}) {
			t.Errorf("want no keys to be a good ring")
		}
		if got := impl.RotateRing(ring, impl.Key{}, 20, 5); got != nil {
			t.Errorf("RotateRing: got %#v", got)
		}
		if _, err := impl.OpenToken(ring, plainTokenCase().text(), "api", 20); err != 3 {
			t.Errorf("OpenToken: got %d", err)
		}
	}
	for _, empty := range []impl.Value{recordValue(nil), recordValue([]string{}, []impl.Atom{}...), {Kind: impl.ValueRecord, Items: countedAtoms(3)[:0], Names: countedNames(3)[:0]}} {
		if impl.SignToken(9, "k", empty) != signedAnyhow(9, "k", "{}") {
			t.Errorf("SignToken: want a token of no claims")
		}
		for _, terms := range [][]impl.CavTerm{nil, {}, countedTerms(3)[:0]} {
			c := impl.Cap{Id: "doc1", Terms: terms, Tag: impl.Mac([]byte("root"), []byte("doc1"))}
			if impl.CheckCap([]byte("root"), c, empty) != impl.Yes || impl.CapText(c) != "cap~doc1~~oulee27be0i1slqhu0mfirafe8" || len(impl.Attenuate(c, countedTerms(1)[0]).Terms) != 1 {
				t.Errorf("want no terms to ask for nothing")
			}
		}
	}
	for _, root := range [][]byte{nil, {}, []byte("root")[:0]} {
		if got := impl.MakeCap(root, "doc1"); !bytes.Equal(got.Tag, impl.Mac(nil, []byte("doc1"))) || got.Terms != nil || impl.CheckCap(root, got, valueOf("{}")) != impl.Yes {
			t.Errorf("MakeCap: got %#v", got)
		}
	}
	for _, tag := range [][]byte{nil, {}} {
		c := impl.Cap{Id: "doc1", Tag: tag}
		if got := impl.Attenuate(c, countedTerms(1)[0]); !reflect.DeepEqual(got, impl.Cap{}) || impl.CapText(c) != "" || impl.CheckCap(nil, c, valueOf("{}")) != -1 {
			t.Errorf("Attenuate: got %#v", got)
		}
	}
	if got := impl.MakeCap(nil, ""); !reflect.DeepEqual(got, impl.Cap{}) {
		t.Errorf("MakeCap: got %#v", got)
	}
	if got, ok := impl.ReadCap("cap~doc1~~oulee27be0i1slqhu0mfirafe8"); !ok || got.Terms != nil {
		t.Errorf("ReadCap: got %#v", got)
	}
	if got, ok := impl.ReadCap("cap~doc1~~"); ok || !reflect.DeepEqual(got, impl.Cap{}) {
		t.Errorf("ReadCap: got %#v", got)
	}
	if got, err := impl.OpenToken(nil, "", "", math.MinInt); err != 1 || !reflect.DeepEqual(got, impl.Value{}) {
		t.Errorf("OpenToken: got %#v, %d", got, err)
	}
}

func TestTokensAnswerTheSameAgain(t *testing.T) {
	for i, a := range manyTokenArguments() {
		first := a.ask().told()
		for range 3 {
			if a.ask().told() != first {
				t.Errorf("answers %d are others when they are asked again", i)
			}
		}
	}
}

// Many ask at once, with the same arguments.
func TestTokensAtOnce(t *testing.T) {
	all := manyTokenArguments()
	var want []string
	for _, a := range all {
		want = append(want, a.ask().told())
	}
	var asking sync.WaitGroup
	for worker := range 8 {
		asking.Add(1)
		go func() {
			defer asking.Done()
			for i := worker % 3; i < len(all); i += 3 {
				if got := all[i].ask().told(); got != want[i] {
					t.Errorf("answers %d are others when many ask", i)
				}
			}
		}()
	}
	asking.Wait()
}
