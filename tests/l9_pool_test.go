package tests

import (
	"math"
	"math/rand"
	"slices"
	"strconv"
	"strings"

	"loop.example/g00036/impl"
)

// shelves is a good store in the schema of desks; the sixth batch changes nothing, the last one changes back what the fifth did.
func shelves() [][]impl.Write {
	return [][]impl.Write{
		writesOf("create group:g1#member@user:ann", "create doc:d1#viewer@group:g1#member"),
		writesOf("create doc:d1#owner@user:bob[fresh:{}]"),
		writesOf("touch doc:d1#banned@user:ann", "create folder:f1#owner@user:cy"),
		writesOf("drop doc:d1#banned@user:ann", "create doc:d1#folder@folder:f2", "create folder:f2#parent@folder:f1"),
		writesOf("drop group:g1#member@user:ann"),
		writesOf("must doc:d1#owner@user:bob", "mustnot group:g1#member@user:ann"),
		writesOf("create group:g1#member@user:ann"),
	}
}

// shelfValues are, for an ask and what is given, the values at each revision of shelves, from 0 on, by their first letters.
func shelfValues() map[string]string {
	return map[string]string{
		"doc:d1#view@user:ann {}":            "nyynynny",
		"doc:d1#view@user:ann {now:@3}":      "nyynynny",
		"doc:d1#view@user:bob {}":            "nnmmmmmm",
		"doc:d1#view@user:bob {now:@3}":      "nnyyyyyy",
		"doc:d1#view@user:bob {now:@10}":     "nnnnnnnn",
		"doc:d1#view@user:cy {}":             "nnnnyyyy",
		"doc:d1#view@group:g1#member {}":     "nyyyyyyy",
		"doc:d1#edit@user:bob {}":            "nnmmmmmm",
		"doc:d1#edit@user:ann {}":            "nnnnnnnn",
		"doc:d1#viewer@user:ann {}":          "nyyyynny",
		"doc:d1#banned@user:ann {}":          "nnnynnnn",
		"doc:d1#folder@folder:f2 {}":         "nnnnyyyy",
		"doc:d1#folder@user:cy {}":           "nnnnnnnn",
		"folder:f1#owner@user:cy {}":         "nnnyyyyy",
		"folder:f1#see@user:cy {}":           "nnnyyyyy",
		"folder:f2#see@user:cy {}":           "nnnnyyyy",
		"folder:f2#parent@folder:f1 {}":      "nnnnyyyy",
		"group:g1#member@user:ann {}":        "nyyyynny",
		"group:g1#member@group:g1 {}":        "nnnnnnnn",
		"doc:d9#view@user:ann {}":            "nnnnnnnn",
		"doc:d1#view@user:dan {zone:\"a\"}":  "nnnnnnnn",
		"doc:d1#owner@user:bob {}":           "nnmmmmmm",
		"doc:d1#owner@user:bob {now:@9}":     "nnyyyyyy",
		"doc:d1#read@user:ann {}":            "nyyyynny",
		"doc:d1#read@user:bob {now:\"@3\"}":  "nnmmmmmm",
		"folder:f1#see@folder:f1#see {x:1}":  "nnnnnnnn",
		"doc:d1#viewer@group:g1#member {}":   "nyyyyyyy",
		"doc:d1#banned@group:g1#member {}":   "nnnnnnnn",
		"folder:f2#parent@folder:f1#see {}":  "nnnnnnnn",
		"folder:f1#owner@user:cy {now:@100}": "nnnyyyyy",
	}
}

// valueOfLetter is No, Yes or Maybe by the first letter of its word.
func valueOfLetter(letter byte) int {
	return slices.IndexFunc(wordsOfValues, func(word string) bool { return word[0] == letter })
}

// keptOf is the entry of a text: the ask, what is given, the revision and the word of the value, with a blank between.
func keptOf(text string) impl.Kept {
	parts := strings.Fields(text)
	if len(parts) != 4 {
		panic("no entry: " + text)
	}
	rev, err := strconv.Atoi(parts[2])
	value := slices.Index(wordsOfValues, parts[3])
	if err != nil || value < 0 {
		panic("no entry: " + text)
	}
	return impl.Kept{Ask: askOf(parts[0]), Given: givenOf(parts[1]), Rev: rev, Value: value}
}

func cacheOf(texts ...string) []impl.Kept {
	var cache []impl.Kept
	for _, text := range texts {
		cache = append(cache, keptOf(text))
	}
	return cache
}

func cacheText(cache []impl.Kept) string {
	var texts []string
	for _, k := range cache {
		word := strconv.Itoa(k.Value)
		if isBetween(k.Value, 0, 2) {
			word = wordsOfValues[k.Value]
		}
		ask := objectText(k.Ask.Type, k.Ask.Id) + "#" + k.Ask.Name + "@" + subjectTextOf(k.Ask.SubType, k.Ask.SubId, k.Ask.SubRel)
		texts = append(texts, strings.Join([]string{ask, impl.ValueText(k.Given), strconv.Itoa(k.Rev), word}, " "))
	}
	return strings.Join(texts, "; ")
}

// shelfKept is the honest entry of an ask of shelfValues, told with what is given, at a revision of shelves.
func shelfKept(text string, rev int) impl.Kept {
	ask, given, _ := strings.Cut(text, " ")
	return impl.Kept{Ask: askOf(ask), Given: givenOf(given), Rev: rev, Value: valueOfLetter(shelfValues()[text][rev])}
}

// shelfAsks are the asks of shelfValues, in order.
func shelfAsks() []string {
	var texts []string
	for text := range shelfValues() {
		texts = append(texts, text)
	}
	slices.Sort(texts)
	return texts
}

// shelfCache is an honest cache of so many entries by shelves, at all of its revisions in turn.
func shelfCache(many int) []impl.Kept {
	var cache []impl.Kept
	for i, text := range shelfAsks()[:many] {
		cache = append(cache, shelfKept(text, i%8))
	}
	return cache
}

// countedCache has entries of so many users at one revision, none of whom may see anything.
func countedCache(many int, rev int) []impl.Kept {
	var cache []impl.Kept
	for i := range many {
		cache = append(cache, keptOf("doc:d1#view@user:u"+strconv.Itoa(1000+i)+" {} "+strconv.Itoa(rev)+" no"))
	}
	return cache
}

// changedKept is a cache in which one entry was changed.
func changedKept(cache []impl.Kept, at int, change func(k *impl.Kept)) []impl.Kept {
	out := slices.Clone(cache)
	change(&out[at])
	return out
}

// badRevs are no revisions of shelves.
func badRevs() []int {
	return []int{math.MinInt, -100, -1, 8, 9, 60, 1000, math.MaxInt}
}

// badCaches are not good by shelves: most of them are good ones in which an entry was changed.
func badCaches() [][]impl.Kept {
	bad := [][]impl.Kept{countedCache(impl.MaxCache+1, 7), countedCache(100, 7), make([]impl.Kept, 1), make([]impl.Kept, 20), make([]impl.Kept, 100000), shelfCache(21)}
	whole := shelfCache(4)
	for at := range whole {
		add := func(change func(k *impl.Kept)) { bad = append(bad, changedKept(whole, at, change)) }
		for _, rev := range badRevs() {
			add(func(k *impl.Kept) { k.Rev = rev })
		}
		for _, value := range []int{math.MinInt, -1, 3, 4, math.MaxInt} {
			add(func(k *impl.Kept) { k.Value = value })
		}
		for _, ask := range []impl.Ask{{}, badAsks()[0], badAsks()[1], badAsks()[50], askOf("doc:d1#see@user:ann"), askOf("user:ann#view@user:ann"), askOf("doc:d1#view@user:ann#member"), askOf("doc:d1#view@other:ann")} {
			add(func(k *impl.Kept) { k.Ask = ask })
		}
		for _, given := range badGivens() {
			add(func(k *impl.Kept) { k.Given = given })
		}
		for other := range whole {
			if other != at {
				add(func(k *impl.Kept) { *k = whole[other] })
				add(func(k *impl.Kept) { k.Ask, k.Given = whole[other].Ask, whole[other].Given })
			}
		}
	}
	one := keptOf("doc:d1#view@user:ann {} 1 yes")
	two, three := one, one
	two.Given = impl.Value{Kind: impl.ValueRecord, Items: []impl.Atom{}, Names: make([]string, 0, 5)}
	three.Rev, three.Value = 0, impl.No
	return append(bad, []impl.Kept{one, one}, []impl.Kept{one, two}, []impl.Kept{two, one}, []impl.Kept{one, three}, []impl.Kept{three, whole[0], one}, append(countedCache(19, 7), countedCache(1, 6)...))
}

// drawnBatchIn is one that can be done on the list by ApplyWrites, with what it leaves.
func drawnBatchIn(from *rand.Rand, s impl.RelSchema, list []impl.Tuple, most int) ([]impl.Write, []impl.Tuple) {
	for {
		var writes []impl.Write
		for range from.Intn(most + 1) {
			kind := oneOf(from, []int{1, 1, 1, 2, 3, 3, 4, 5})
			tuple := drawnTupleIn(from, s)
			if kind > 2 && len(list) > 0 && from.Intn(4) > 0 {
				tuple = oneOf(from, list)
			}
			writes = append(writes, impl.Write{Kind: kind, Tuple: tuple})
		}
		if res := doneByWords(s, list, writes); res.Err == 0 {
			return writes, res.Tuples
		}
	}
}

// drawnStoreIn is a good store of so many batches in the schema; the first one is greater, so that there is something to change.
func drawnStoreIn(from *rand.Rand, s impl.RelSchema, many int) [][]impl.Write {
	var store [][]impl.Write
	var list []impl.Tuple
	for i := range many {
		var batch []impl.Write
		batch, list = drawnBatchIn(from, s, list, []int{12, 3}[min(i, 1)])
		store = append(store, batch)
	}
	return store
}

// drawnAskOf is good in the schema; most often it asks for an object and a subject that stand in the list.
func drawnAskOf(from *rand.Rand, s impl.RelSchema, list []impl.Tuple) impl.Ask {
	a := drawnAskIn(from, s)
	if len(list) == 0 || from.Intn(8) == 0 {
		return a
	}
	object, subject := oneOf(from, list), oneOf(from, list)
	a.Type, a.Id, a.Name = object.Type, object.Id, oneOf(from, namesOfType(s, object.Type))
	a.SubType, a.SubRel = subject.SubType, subject.SubRel
	if subject.SubId != "*" {
		a.SubId = subject.SubId
	}
	return a
}
