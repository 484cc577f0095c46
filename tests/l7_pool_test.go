package tests

import (
	"math"
	"math/rand"
	"slices"
	"strconv"
	"strings"

	"loop.example/g00036/impl"
)

// toldTuple is a tuple and the text that the document gives it.
type toldTuple struct {
	tuple impl.Tuple
	text  string
}

// wordsOfWrites are what the tests call each kind of write.
var wordsOfWrites = []string{"", "touch", "create", "drop", "must", "mustnot"}

// stores is the schema of most tests of the chapter; some relations have but one kind of subject.
func stores() impl.RelSchema {
	return relOf(
		"caveat fresh(now time): now <= @9",
		"caveat near(from addr, zone text): from in 10.0.0.0/8 && zone == \"a\"",
		"type doc",
		" relation folder: folder",
		" relation owner: user | user with fresh",
		" relation reader: user with near",
		" relation viewer: group#member | group#member with near | user | user with fresh | user with near | user:* | user:* with near",
		" permission view = owner + viewer",
		"type folder",
		" relation owner: user:*",
		" relation part: doc#view | group#member",
		"type group",
		" relation member: group#member | user",
		"type user",
	)
}

// tupleOf is the tuple of a text.
func tupleOf(text string) impl.Tuple {
	t, ok := readTupleByWords(text)
	if !ok {
		panic("no tuple: " + text)
	}
	return t
}

func tuplesOf(texts ...string) []impl.Tuple {
	var list []impl.Tuple
	for _, text := range texts {
		list = append(list, tupleOf(text))
	}
	return list
}

// writeOf is the write of a word for its kind, a blank and the text of its tuple.
func writeOf(text string) impl.Write {
	word, tuple, _ := strings.Cut(text, " ")
	kind := slices.Index(wordsOfWrites, word)
	if kind < 1 {
		panic("no write: " + text)
	}
	return impl.Write{Kind: kind, Tuple: tupleOf(tuple)}
}

func writesOf(texts ...string) []impl.Write {
	var list []impl.Write
	for _, text := range texts {
		list = append(list, writeOf(text))
	}
	return list
}

func tuplesText(list []impl.Tuple) string {
	var texts []string
	for _, t := range list {
		texts = append(texts, tupleTextByWords(t))
	}
	return strings.Join(texts, " ")
}

func writesText(list []impl.Write) string {
	var texts []string
	for _, w := range list {
		word := strconv.Itoa(w.Kind)
		if isBetween(w.Kind, 1, 5) {
			word = wordsOfWrites[w.Kind]
		}
		texts = append(texts, word+" "+tupleTextByWords(w.Tuple))
	}
	return strings.Join(texts, ", ")
}

func longId(letter string) string {
	return strings.Repeat(letter, 40)
}

// fitTuples are tuples that are good in the schema of stores, each with its text; no two have one place but where only Caveat or Given is another.
func fitTuples() []toldTuple {
	return []toldTuple{
		{impl.Tuple{Type: "doc", Id: "d1", Rel: "folder", SubType: "folder", SubId: "f1"}, "doc:d1#folder@folder:f1"},
		{impl.Tuple{Type: "doc", Id: "d1", Rel: "owner", SubType: "user", SubId: "ann"}, "doc:d1#owner@user:ann"},
		{impl.Tuple{Type: "doc", Id: "d1", Rel: "owner", SubType: "user", SubId: "ann", Caveat: "fresh", Given: recordValue(nil)}, "doc:d1#owner@user:ann[fresh:{}]"},
		{impl.Tuple{Type: "doc", Id: "d1", Rel: "owner", SubType: "user", SubId: "ann", Caveat: "fresh", Given: recordValue([]string{"now"}, timeAtom(3))}, "doc:d1#owner@user:ann[fresh:{now:@3}]"},
		{impl.Tuple{Type: "doc", Id: "d1", Rel: "owner", SubType: "user", SubId: "ann", Caveat: "fresh", Given: recordValue([]string{"now"}, timeAtom(30))}, "doc:d1#owner@user:ann[fresh:{now:@30}]"},
		{impl.Tuple{Type: "doc", Id: "d1", Rel: "reader", SubType: "user", SubId: "bob", Caveat: "near", Given: recordValue([]string{"from"}, addrAtom(10<<24, 8))}, "doc:d1#reader@user:bob[near:{from:10.0.0.0/8}]"},
		{impl.Tuple{Type: "doc", Id: "d1", Rel: "viewer", SubType: "group", SubId: "g", SubRel: "member"}, "doc:d1#viewer@group:g#member"},
		{impl.Tuple{Type: "doc", Id: "d1", Rel: "viewer", SubType: "group", SubId: "g", SubRel: "member", Caveat: "near", Given: recordValue([]string{"zone"}, textAtom("]"))}, "doc:d1#viewer@group:g#member[near:{zone:\"]\"}]"},
		{impl.Tuple{Type: "doc", Id: "d1", Rel: "viewer", SubType: "user", SubId: "*"}, "doc:d1#viewer@user:*"},
		{impl.Tuple{Type: "doc", Id: "d1", Rel: "viewer", SubType: "user", SubId: "*", Caveat: "near", Given: recordValue([]string{"from", "zone"}, addrAtom(0, 0), textAtom("}],[:#@\\\"*"))}, "doc:d1#viewer@user:*[near:{from:0.0.0.0/0,zone:\"}],[:#@\\\\\\\"*\"}]"},
		{impl.Tuple{Type: "doc", Id: "d1", Rel: "viewer", SubType: "user", SubId: "ann", Caveat: "near", Given: recordValue([]string{"zone"}, textAtom(""))}, "doc:d1#viewer@user:ann[near:{zone:\"\"}]"},
		{impl.Tuple{Type: "doc", Id: "d10", Rel: "owner", SubType: "user", SubId: "-"}, "doc:d10#owner@user:-"},
		{impl.Tuple{Type: "doc", Id: "d2", Rel: "owner", SubType: "user", SubId: "."}, "doc:d2#owner@user:."},
		{impl.Tuple{Type: "doc", Id: "0", Rel: "owner", SubType: "user", SubId: "_"}, "doc:0#owner@user:_"},
		{impl.Tuple{Type: "doc", Id: "-.-_Z9", Rel: "owner", SubType: "user", SubId: longId("9")}, "doc:-.-_Z9#owner@user:" + longId("9")},
		{impl.Tuple{Type: "folder", Id: longId("-"), Rel: "owner", SubType: "user", SubId: "*"}, "folder:" + longId("-") + "#owner@user:*"},
		{impl.Tuple{Type: "folder", Id: "f1", Rel: "part", SubType: "doc", SubId: "d1", SubRel: "view"}, "folder:f1#part@doc:d1#view"},
		{impl.Tuple{Type: "group", Id: "g", Rel: "member", SubType: "group", SubId: "g", SubRel: "member"}, "group:g#member@group:g#member"},
		{impl.Tuple{Type: "group", Id: "g", Rel: "member", SubType: "user", SubId: "group"}, "group:g#member@user:group"},
	}
}

// unfitTexts are texts of tuples that are not good in the schema of stores.
func unfitTexts() []string {
	return []string{
		"doc:d1#folder@user:ann", "doc:d1#folder@folder:*", "doc:d1#folder@folder:f1#owner", "doc:d1#folder@doc:d1", "doc:d1#folder@folder:f1[fresh:{}]",
		"doc:d1#owner@user:*", "doc:d1#owner@user:*[fresh:{now:@3}]", "doc:d1#owner@user:ann[near:{}]", "doc:d1#owner@user:ann#member", "doc:d1#owner@group:g#member", "doc:d1#owner@group:g",
		"doc:d1#reader@user:bob", "doc:d1#reader@user:bob[fresh:{}]", "doc:d1#reader@user:*[near:{}]",
		"doc:d1#viewer@group:g", "doc:d1#viewer@group:*", "doc:d1#viewer@group:*#member", "doc:d1#viewer@group:g#owner", "doc:d1#viewer@group:g#member[fresh:{}]", "doc:d1#viewer@user:*#member", "doc:d1#viewer@user:*[fresh:{}]", "doc:d1#viewer@user:ann#viewer", "doc:d1#viewer@group:*#member[near:{}]",
		"doc:d1#view@user:ann", "doc:d1#member@user:ann", "doc:d1#Owner@user:ann", "doc:d1#own@user:ann", "doc:d1#owners@user:ann", "Doc:d1#owner@user:ann", "doc:d1#owner@User:ann", "group:g#owner@user:ann", "user:ann#owner@user:ann", "user:ann#member@user:ann", "other:o#owner@user:ann", "folder:f1#viewer@user:ann",
		"folder:f1#owner@user:ann", "folder:f1#owner@user:*#owner", "folder:f1#owner@user:*[near:{}]", "folder:f1#owner@group:g#member", "folder:f1#part@doc:d1#owner", "folder:f1#part@doc:d1", "folder:f1#part@doc:*#view", "folder:f1#part@folder:f1#part",
		"doc:d1#owner@user:ann[fresh:{now:3}]", "doc:d1#owner@user:ann[fresh:{now:\"@3\"}]", "doc:d1#owner@user:ann[fresh:{Now:@3}]", "doc:d1#owner@user:ann[fresh:{now:@3,then:@3}]", "doc:d1#owner@user:ann[fresh:{a:@3,now:@3}]", "doc:d1#owner@user:ann[fresh:{zone:\"a\"}]", "doc:d1#owner@user:ann[fresh:{from:10.0.0.0/8}]", "doc:d1#owner@user:ann[Fresh:{}]", "doc:d1#owner@user:ann[other:{}]",
		"doc:d1#reader@user:bob[near:{from:\"a\"}]", "doc:d1#reader@user:bob[near:{zone:10.0.0.0/8}]", "doc:d1#reader@user:bob[near:{from:\"a\",zone:10.0.0.0/8}]", "doc:d1#reader@user:bob[near:{from:10.0.0.0/8,zone:1}]", "doc:d1#reader@user:bob[near:{now:@3}]", "doc:d1#reader@user:bob[near:{from:10.0.0.0/8,now:@3,zone:\"a\"}]", "doc:d1#reader@user:bob[near:{zone:User::\"a\"}]", "doc:d1#reader@user:bob[near:{from:10.0000}]",
	}
}

// badIds are texts that are no ids.
func badIds() []string {
	return []string{"", " ", "**", "a*", "*a", "a b", "a ", " a", "a:b", "a#b", "a@b", "a[b", "a]", "a/b", "a,b", "a+b", "a\n", "\n", "é", "a\xff", "\x00", longId("a") + "a", strings.Repeat("a", 9000)}
}

// wordlessTuples have no text: each is a good one that was changed.
func wordlessTuples() []impl.Tuple {
	var bad []impl.Tuple
	add := func(text string, change func(t *impl.Tuple)) {
		t := tupleOf(text)
		change(&t)
		bad = append(bad, t)
	}
	const plain, bound = "doc:d1#viewer@group:g#member", "doc:d1#owner@user:ann[fresh:{now:@3}]"
	for _, text := range []string{plain, bound} {
		for _, id := range badIds() {
			add(text, func(t *impl.Tuple) { t.Id = id })
			add(text, func(t *impl.Tuple) { t.SubId = id })
		}
		for _, word := range badWords() {
			add(text, func(t *impl.Tuple) { t.Type = word })
			add(text, func(t *impl.Tuple) { t.Rel = word })
			add(text, func(t *impl.Tuple) { t.SubType = word })
			if word != "" {
				add(text, func(t *impl.Tuple) { t.SubRel = word })
			}
		}
		add(text, func(t *impl.Tuple) { t.Id = "*" })
	}
	for _, word := range badWords() {
		add(bound, func(t *impl.Tuple) { t.Caveat = word })
	}
	for _, v := range append(badValues(), setValue(), setValue(timeAtom(3)), atomValue(timeAtom(3)), recordValue([]string{"now"}), recordValue(nil, timeAtom(3))) {
		add(bound, func(t *impl.Tuple) { t.Given = v })
		if !isZero(v) {
			add(plain, func(t *impl.Tuple) { t.Given = v })
		}
	}
	add(plain, func(t *impl.Tuple) { t.Caveat = "fresh" })
	add(plain, func(t *impl.Tuple) { t.Given = recordValue(nil) })
	add(plain, func(t *impl.Tuple) { t.Given = recordValue([]string{"now"}, timeAtom(3)) })
	add(plain, func(t *impl.Tuple) { t.Given.Names = []string{"now"} })
	add(plain, func(t *impl.Tuple) { t.Given.Items = []impl.Atom{{}} })
	add(plain, func(t *impl.Tuple) { t.Given.Atom.Text = "a" })
	add(bound, func(t *impl.Tuple) { t.Given.Atom = timeAtom(3) })
	return append(bad, impl.Tuple{}, impl.Tuple{Type: "doc"}, impl.Tuple{SubRel: "member"}, impl.Tuple{Caveat: "fresh", Given: recordValue(nil)})
}

// unfitTuples are not good in the schema of stores.
func unfitTuples() []impl.Tuple {
	return append(tuplesOf(unfitTexts()...), wordlessTuples()...)
}

// badTupleTexts are texts of no tuple.
func badTupleTexts() []string {
	return []string{
		"", " ", ":", ":#@:", "a:#@:", "a:a#a@a:", "a:a#a@:a", "a:a#@a:a", "a:#a@a:a", ":a#a@a:a", "a:a#a@a", "a:a#a", "a:a", "a", "a:a@a:a", "a#a@a:a",
		"a:a#a@a:a#", "a:a#a@a:a##", "a:a#a@a:a#a#a", "a:a#a@a:a#1", "a:a#a@a:a#*", "a:a#a@a:a:a", "a:a:a#a@a:a", "a:a#a@a:a@a", "a:a#a@a:a@a:a", "a:a#a#a@a:a", "a:a@a#a:a", "a#a:a@a:a",
		" a:a#a@a:a", "a:a#a@a:a ", "a: a#a@a:a", "a:a #a@a:a", "a:a#a @a:a", "a:a#a@a:a\n", "a:a#a@a:a\x00", "a:a#a@a:é", "a:a#a@a:\xff",
		"1:a#a@a:a", "a:a#1@a:a", "a:a#a@1:a", "-:a#a@a:a", "a.b:a#a@a:a", "a:a#a-b@a:a", "a:*#a@a:a", "*:a#a@a:a", "a:a#*@a:a", "a:a#a@*:a", "a:a#a@a:**", "a:a#a@a:a*", "a:a#a@a:*a",
		"a:a#a@a:a[", "a:a#a@a:a]", "a:a#a@a:a[]", "a:a#a@a:a[:]", "a:a#a@a:a[:{}]", "a:a#a@a:a[c]", "a:a#a@a:a[c:]", "a:a#a@a:a[c{}]", "a:a#a@a:a[c:{}", "a:a#a@a:a[c:{}]]", "a:a#a@a:a[[c:{}]", "a:a#a@a:a[c:{}] ", "a:a#a@a:a [c:{}]", "a:a#a@a:a[ c:{}]", "a:a#a@a:a[c :{}]", "a:a#a@a:a[c: {}]", "a:a#a@a:a[c:{} ]", "a:a#a@a:a[c:[]]", "a:a#a@a:a[c:1]", "a:a#a@a:a[c:\"{}\"]", "a:a#a@a:a[1:{}]", "a:a#a@a:a[c:{}][c:{}]", "a:a#a@a:a[c:{}#a]", "a:a#a@a:a[c:{}]#a", "a:a#a@a:a[c#a:{}]", "[c:{}]", "a:a#a@a[c:{}]:a",
		"a:a#a@a:a[c:{a}]", "a:a#a@a:a[c:{a:}]", "a:a#a@a:a[c:{a:1,}]", "a:a#a@a:a[c:{b:1,a:1}]", "a:a#a@a:a[c:{a:1,a:1}]", "a:a#a@a:a[c:{a:01}]", "a:a#a@a:a[c:{a:\"]}]", "a:a#a@a:a[c:{a:\"}]",
		"a:" + longId("a") + "a#a@a:a", "a:a#a@a:" + longId("a") + "a", longName("n") + "n:a#a@a:a", "a:a#" + longName("n") + "n@a:a", "a:a#a@" + longName("n") + "n:a", "a:a#a@a:a#" + longName("n") + "n", "a:a#a@a:a[" + longName("n") + "n:{}]",
	}
}

// plainTexts are texts of tuples that need no schema to be told.
func plainTexts() []string {
	texts := append(unfitTexts(),
		"a:a#a@a:a", "_:_#_@_:_#_", "a:1#a@a:1", "a:-#a@a:.", "a:a#a@a:*", "a:a#a@a:*#a", "a:a#a@a:a#a[c:{}]", "a:a#a@a:*#a[c:{}]", "a:a#a@a:a[c:{}]", "a:a#a@a:a[a:{a:1,b:@1,c:\"\",d:User::\"]\"}]", "nil:nil#nil@nil:nil#nil[nil:{nil:true}]", "true:true#true@true:true",
		"a:a#a@a:a[c:{a:\"[\"}]", "a:a#a@a:a[c:{a:\"]\"}]", "a:a#a@a:a[c:{a:\"]]\",b:\"#@:[\"}]", "a:a#a@a:a[c:{a:\"\\\"]\\\\\"}]",
		"a:"+longId("Z")+"#a@a:"+longId("_"), longName("T")+":a#"+longName("R")+"@"+longName("S")+":a#"+longName("r")+"["+longName("c")+":{"+longName("p")+":1}]",
	)
	for _, v := range goodValues() {
		if v.value.Kind == impl.ValueRecord {
			texts = append(texts, "a:a#a@a:a[c:"+v.text+"]", "a:a#a@a:*#b[c:"+v.text+"]")
		}
	}
	return texts
}

// countedTuples are good tuples that rise, from the first number on.
func countedTuples(first int, many int) []impl.Tuple {
	var list []impl.Tuple
	for i := range many {
		list = append(list, tupleOf("doc:d"+strconv.Itoa(10000+first+i)+"#owner@user:ann"))
	}
	return list
}

func writesWith(kind int, list []impl.Tuple) []impl.Write {
	var writes []impl.Write
	for _, t := range list {
		writes = append(writes, impl.Write{Kind: kind, Tuple: t})
	}
	return writes
}

// fullStore has as many tuples as may be, put in by so many batches, five at least, of which the last ones are empty.
func fullStore(batches int) [][]impl.Write {
	store := make([][]impl.Write, batches)
	for i := range 5 {
		store[i] = writesWith(impl.WriteCreate, countedTuples(30*i, 30))
	}
	return store
}

// badTupleLists are lists that are not good in the schema of stores.
func badTupleLists() [][]impl.Tuple {
	one, two, three := tupleOf("doc:d1#owner@user:ann"), tupleOf("doc:d1#owner@user:bob"), tupleOf("doc:d1#viewer@user:ann")
	bound := tupleOf("doc:d1#owner@user:ann[fresh:{now:@3}]")
	bad := [][]impl.Tuple{
		countedTuples(0, impl.MaxTuples+1), countedTuples(0, 1000), make([]impl.Tuple, 1), make([]impl.Tuple, 3000),
		{one, one}, {one, bound}, {bound, one}, {two, one}, {one, three, two}, {one, two, one}, {one, two, two}, {three, one, two},
	}
	for _, t := range tuplesOf(unfitTexts()...) {
		bad = append(bad, []impl.Tuple{t})
	}
	for _, t := range []impl.Tuple{{}, {Type: "doc"}, tupleOf("doc:d1#owner@user:*")} {
		bad = append(bad, []impl.Tuple{t, one}, []impl.Tuple{one, t}, []impl.Tuple{one, t, two})
	}
	return bad
}

// badKinds are kinds of no write.
func badKinds() []int {
	return []int{math.MinInt, -1, 0, 6, 7, math.MaxInt}
}

// badBatches can't be done on no tuples; their Errs are told with them.
func badBatches() map[int][][]impl.Write {
	one := tupleOf("doc:d1#owner@user:ann")
	bad := map[int][][]impl.Write{
		1: {writesWith(impl.WriteTouch, countedTuples(0, impl.MaxBatch+1)), make([]impl.Write, impl.MaxBatch+1), make([]impl.Write, 3000)},
		2: {make([]impl.Write, 1), make([]impl.Write, impl.MaxBatch), append(writesWith(impl.WriteTouch, countedTuples(0, 29)), impl.Write{Kind: 6, Tuple: one})},
		3: {writesOf("must doc:d1#owner@user:ann"), writesOf("touch doc:d1#owner@user:ann", "must doc:d1#owner@user:ann")},
		4: {writesOf("create doc:d1#owner@user:ann", "create doc:d1#owner@user:ann"), writesOf("touch doc:d1#owner@user:ann", "create doc:d1#owner@user:ann[fresh:{}]")},
		5: {writesOf("drop doc:d1#owner@user:ann"), writesOf("touch doc:d1#owner@user:ann", "drop doc:d1#owner@user:ann", "drop doc:d1#owner@user:ann")},
	}
	for _, kind := range badKinds() {
		bad[2] = append(bad[2], []impl.Write{{Kind: kind, Tuple: one}}, []impl.Write{{Kind: impl.WriteDrop, Tuple: one}, {Kind: kind, Tuple: one}})
	}
	for _, t := range unfitTuples() {
		for kind := impl.WriteTouch; kind <= impl.WriteMustNot; kind++ {
			bad[2] = append(bad[2], []impl.Write{{Kind: kind, Tuple: t}})
		}
	}
	return bad
}

// badStores are lists of batches that are no store in the schema of stores.
func badStores() [][][]impl.Write {
	good := fullStore(5)
	bad := [][][]impl.Write{make([][]impl.Write, impl.MaxBatches+1), fullStore(impl.MaxBatches + 1), make([][]impl.Write, 3000), append(good[:5:5], writesOf("touch doc:d1#owner@user:ann"))}
	for _, err := range []int{1, 2, 3, 4, 5} {
		for _, batch := range badBatches()[err][:2] {
			bad = append(bad, [][]impl.Write{batch}, [][]impl.Write{{}, batch}, [][]impl.Write{batch, {}}, append(good[:2:2], batch, good[2], good[3]))
		}
	}
	return bad
}

// drawnTuple is good in the schema of stores; few places are drawn, so that they come again.
func drawnTuple(from *rand.Rand) impl.Tuple {
	text := "doc:d" + strconv.Itoa(from.Intn(3))
	if from.Intn(2) == 0 {
		text += "#owner@user:" + oneOf(from, []string{"ann", "bob"}) + oneOf(from, []string{"", "[fresh:{}]", "[fresh:{now:@1}]", "[fresh:{now:@2}]"})
	} else {
		text += "#viewer@" + oneOf(from, []string{"group:g#member", "group:h#member", "user:ann", "user:*"}) + oneOf(from, []string{"", "[near:{}]", "[near:{zone:\"a\"}]", "[near:{from:10.0.0.0/8,zone:\"a\"}]"})
	}
	return tupleOf(text)
}

// drawnBatch is one of which every write is right; it may well not be done.
func drawnBatch(from *rand.Rand, most int) []impl.Write {
	var writes []impl.Write
	for range from.Intn(most + 1) {
		writes = append(writes, impl.Write{Kind: oneOf(from, []int{1, 1, 1, 2, 3, 4, 5}), Tuple: drawnTuple(from)})
	}
	return writes
}

// drawnStore is a good store of so many batches.
func drawnStore(from *rand.Rand, many int) [][]impl.Write {
	var store [][]impl.Write
	var list []impl.Tuple
	for len(store) < many {
		batch := drawnBatch(from, 6)
		if res := doneByWords(stores(), list, batch); res.Err == 0 {
			store, list = append(store, batch), res.Tuples
		}
	}
	return store
}
