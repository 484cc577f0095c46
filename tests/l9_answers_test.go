package tests

import (
	"math"
	"reflect"
	"slices"
	"strings"
	"testing"

	"loop.example/g00036/impl"
)

// cacheArguments are all that the functions of the chapter take.
type cacheArguments struct {
	schema  impl.RelSchema
	batches [][]impl.Write
	cache   []impl.Kept
	list    []impl.Tuple
	ask     impl.Ask
	given   impl.Value
	facts   []impl.Fact
	writes  []impl.Write
	least   int
	window  int
}

// askAllOfCaches holds all functions of the chapter against the words, whatever they are given.
func askAllOfCaches(t *testing.T, a cacheArguments, what string) {
	t.Helper()
	if got, want := impl.GoodCache(a.schema, a.batches, a.cache), goodCacheByWords(a.schema, a.batches, a.cache); got != want {
		t.Errorf("%.200s: GoodCache told %v", what, got)
	}
	if got, want := impl.Honest(a.schema, a.batches, a.cache), honestByWords(a.schema, a.batches, a.cache); got != want {
		t.Errorf("%.200s: Honest told %v", what, got)
	}
	sameAsWords(t, a.schema, a.batches, a.cache, a.ask, a.given, a.least)
	if got, want := impl.Affected(a.schema, a.writes), affectedByWords(a.schema, a.writes); !slices.Equal(got, want) {
		t.Errorf("%.200s: Affected told %q, want %q", what, strataText(got), strataText(want))
	}
	if got, want := impl.Freshen(a.schema, a.batches, a.cache), freshenByWords(a.schema, a.batches, a.cache); !sameCache(got, want) {
		t.Errorf("%.200s: Freshen told %s, want %s", what, cacheText(got), cacheText(want))
	}
	if got, want := impl.Purge(a.schema, a.batches, a.cache, a.window), purgeByWords(a.schema, a.batches, a.cache, a.window); !sameCache(got, want) {
		t.Errorf("%.200s: Purge told %s, want %s", what, cacheText(got), cacheText(want))
	}
	if got, want := impl.UpdateFacts(a.schema, a.list, a.ask, a.given, a.facts, a.writes), updateByWords(a.schema, a.list, a.ask, a.given, a.writes); !slices.Equal(got, want) {
		t.Errorf("%.200s: UpdateFacts told %s, want %s", what, factsText(got), factsText(want))
	}
}

// goodCacheArguments are ones of which each function tells something.
func goodCacheArguments() cacheArguments {
	s, store := desks(), shelves()
	list, a, given := storeByWords(s, store)[4], askOf("doc:d1#view@user:bob"), givenOf("{now:@3}")
	return cacheArguments{s, store, shelfCache(4), list, a, given, factsByWords(s, list, a, given), writesOf("drop group:g1#member@user:ann", "create doc:d2#owner@user:bob[fresh:{}]"), 3, 4}
}

func TestCachesAnswerAtAnyText(t *testing.T) {
	for _, text := range append(oddTexts(), "doc", "d1", "view", "member", "group", "user", "*", longId("-"), strings.Repeat("a", 100000)) {
		for i, change := range []func(a *impl.Ask){
			func(a *impl.Ask) { a.Type = text },
			func(a *impl.Ask) { a.Id = text },
			func(a *impl.Ask) { a.Name = text },
			func(a *impl.Ask) { a.SubType = text },
			func(a *impl.Ask) { a.SubId = text },
			func(a *impl.Ask) { a.SubRel = text },
		} {
			a := askOf("doc:d1#view@group:g1#member")
			change(&a)
			s, store := desks(), shelves()
			cache := append(shelfCache(2), impl.Kept{Ask: a, Given: recordValue(nil), Rev: 1})
			good := fitsAskByWords(s, a)
			if got := impl.GoodCache(s, store, cache); got != good {
				t.Errorf("field %d, %.100q: GoodCache told %v", i, text, got)
			}
			value, rev, kept := impl.AskKept(s, store, shelfCache(2), a, recordValue(nil), 7)
			if good != (rev == 7) || good != (value >= 0) || good != (len(kept) == 3) || !good && (value != -1 || rev != 0 || len(kept) != 0) {
				t.Errorf("field %d, %.100q: AskKept told %d, %d, %d entries", i, text, value, rev, len(kept))
			}
			if got := impl.UpdateFacts(s, nil, a, recordValue(nil), nil, writesOf("touch doc:d1#viewer@group:g1#member")); !good && len(got) != 0 {
				t.Errorf("field %d, %.100q: UpdateFacts told %s", i, text, factsText(got))
			}
			w := impl.Write{Kind: impl.WriteTouch, Tuple: impl.Tuple{Type: a.Type, Id: a.Id, Rel: "viewer", SubType: a.SubType, SubId: a.SubId, SubRel: a.SubRel}}
			if got, want := impl.Affected(s, []impl.Write{w}), affectedByWords(s, []impl.Write{w}); !slices.Equal(got, want) {
				t.Errorf("field %d, %.100q: Affected told %q", i, text, strataText(got))
			}
		}
	}
}

func TestCachesAnswerAtAnyValue(t *testing.T) {
	for _, v := range oddValues() {
		a := goodCacheArguments()
		a.given = v
		askAllOfCaches(t, a, "given "+impl.ValueText(v))
		a = goodCacheArguments()
		a.cache[3].Given = v
		askAllOfCaches(t, a, "the given of an entry "+impl.ValueText(v))
	}
}

func TestCachesAnswerAtAnyNumbers(t *testing.T) {
	for _, num := range append(oddInts(), 5, 6, 7, 8, 60, 999, 1000, 1001) {
		for i, change := range []func(a *cacheArguments){
			func(a *cacheArguments) { a.least = num },
			func(a *cacheArguments) { a.window = num },
			func(a *cacheArguments) { a.cache[2].Rev = num },
			func(a *cacheArguments) { a.cache[2].Value = num },
			func(a *cacheArguments) { a.writes[1].Kind = num },
			func(a *cacheArguments) { a.batches[3][1].Kind = num },
			func(a *cacheArguments) { a.facts[0].Value = num },
			func(a *cacheArguments) { a.schema.Types[0].Permissions[0].Body[0].Kind = num },
			func(a *cacheArguments) { a.least, a.window = num, num },
		} {
			a := goodCacheArguments()
			change(&a)
			askAllOfCaches(t, a, "number "+shown(num)+", change "+shown(i))
		}
	}
}

func TestCachesAnswerAtAnyTuple(t *testing.T) {
	base := goodCacheArguments()
	base.schema = stores()
	base.ask, base.given = askOf("doc:d1#view@user:ann"), recordValue(nil)
	base.cache, base.list, base.least = cacheOf("doc:d1#view@user:ann {} 0 no", "doc:d1#owner@user:bob {} 1 no"), nil, 1
	for i, x := range oddTuples() {
		for _, kind := range []int{0, 1, 2, 3, 4, 5, 6, math.MinInt} {
			a := base
			a.writes = []impl.Write{{Kind: kind, Tuple: x}}
			a.batches = [][]impl.Write{nil, a.writes}
			askAllOfCaches(t, a, "tuple "+shown(i)+", kind "+shown(kind))
			a.list = []impl.Tuple{x}
			a.batches = [][]impl.Write{{{Kind: impl.WriteTouch, Tuple: x}}, a.writes}
			askAllOfCaches(t, a, "tuple "+shown(i)+" on itself, kind "+shown(kind))
		}
	}
	for i, store := range append(badStores(), nil, fullStore(60)) {
		a := base
		a.batches, a.writes = store, slices.Concat(store...)
		askAllOfCaches(t, a, "store "+shown(i))
	}
	for i, list := range badTupleLists() {
		a := base
		a.list, a.writes = list, writesWith(impl.WriteTouch, list)
		askAllOfCaches(t, a, "list "+shown(i))
	}
}

func TestCachesAnswerAtAnySchema(t *testing.T) {
	for i, s := range oddRels() {
		for _, ask := range []string{"a:a#r@a:a", "a:a#p@a:a#r"} {
			writes := writesOf("touch a:a#r@a:a")
			askAllOfCaches(t, cacheArguments{s, nil, nil, nil, askOf(ask), recordValue(nil), nil, nil, 0, 0}, "schema "+shown(i)+", "+ask)
			askAllOfCaches(t, cacheArguments{s, [][]impl.Write{writes, nil}, cacheOf("a:a#r@a:a {} 1 yes", "a:a#r@a:b {} 0 no"), nil, askOf(ask), recordValue(nil), nil, writes, 2, 1}, "schema "+shown(i)+" with a store, "+ask)
		}
	}
}

func TestCachesAnswerAtAnyCache(t *testing.T) {
	for i, cache := range append(badCaches(), nil, shelfCache(20)) {
		a := goodCacheArguments()
		a.cache = cache
		askAllOfCaches(t, a, "cache "+shown(i))
		a.schema = impl.RelSchema{}
		askAllOfCaches(t, a, "no schema, cache "+shown(i))
		a.batches = nil
		askAllOfCaches(t, a, "no schema and no store, cache "+shown(i))
	}
}

// everyKept is the cache with each of its lists gone through by what is told for its sort.
func everyKept(cache []impl.Kept, entries func([]impl.Kept) []impl.Kept, items func([]impl.Atom) []impl.Atom, names func([]string) []string) []impl.Kept {
	out := entries(cache)
	for i, k := range out {
		out[i].Given.Items, out[i].Given.Names = items(k.Given.Items), names(k.Given.Names)
	}
	return out
}

func roomyCache(cache []impl.Kept) []impl.Kept {
	return everyKept(cache,
		func(list []impl.Kept) []impl.Kept { return withRoom(list, impl.Kept{Rev: -7}) },
		func(list []impl.Atom) []impl.Atom { return withRoom(list, numAtom(-7)) },
		func(list []string) []string { return withRoom(list, "behind") },
	)
}

func openedCache(cache []impl.Kept) []impl.Kept {
	return everyKept(cache, opened[impl.Kept], opened[impl.Atom], opened[string])
}

func scribbleCache(cache []impl.Kept) {
	for _, k := range cache {
		scribble(k.Given.Items, numAtom(-7))
		scribble(k.Given.Names, "scribbled")
	}
	scribble(cache, impl.Kept{Rev: -7})
}

func (a cacheArguments) roomy() cacheArguments {
	store := storeArguments{schema: a.schema, list: a.list, batches: a.batches, writes: a.writes}.roomy()
	check := checkArguments{given: a.given, facts: a.facts}.roomy()
	return cacheArguments{store.schema, store.batches, roomyCache(a.cache), store.list, a.ask, check.given, check.facts, store.writes, a.least, a.window}
}

func (a cacheArguments) opened() cacheArguments {
	store := storeArguments{schema: a.schema, list: a.list, batches: a.batches, writes: a.writes}.opened()
	check := checkArguments{given: a.given, facts: a.facts}.opened()
	return cacheArguments{store.schema, store.batches, openedCache(a.cache), store.list, a.ask, check.given, check.facts, store.writes, a.least, a.window}
}

func (a cacheArguments) scribbleOver() {
	storeArguments{schema: a.schema, list: a.list, batches: a.batches, writes: a.writes}.scribbleOver()
	checkArguments{given: a.given, facts: a.facts}.scribbleOver()
	scribbleCache(a.cache)
}

// cacheAnswers are all that the functions of the chapter answer.
type cacheAnswers struct {
	caches [][]impl.Kept
	strata []impl.Stratum
	facts  []impl.Fact
	rest   []any
}

func (a cacheArguments) answers() cacheAnswers {
	value, rev, kept := impl.AskKept(a.schema, a.batches, a.cache, a.ask, a.given, a.least)
	out := cacheAnswers{
		caches: [][]impl.Kept{kept, impl.Freshen(a.schema, a.batches, a.cache), impl.Purge(a.schema, a.batches, a.cache, a.window)},
		strata: impl.Affected(a.schema, a.writes),
		facts:  impl.UpdateFacts(a.schema, a.list, a.ask, a.given, a.facts, a.writes),
		rest:   []any{value, rev, impl.GoodCache(a.schema, a.batches, a.cache), impl.Honest(a.schema, a.batches, a.cache)},
	}
	for _, k := range a.cache {
		value, rev, kept := impl.AskKept(a.schema, a.batches, a.cache, k.Ask, k.Given, a.least)
		out.caches = append(out.caches, kept)
		out.rest = append(out.rest, value, rev)
	}
	return out
}

// copied is the same answers in memory of their own.
func (r cacheAnswers) copied() cacheAnswers {
	out := cacheAnswers{strata: slices.Clone(r.strata), facts: slices.Clone(r.facts), rest: r.rest}
	for _, cache := range r.caches {
		out.caches = append(out.caches, everyKept(cache, slices.Clone[[]impl.Kept], slices.Clone[[]impl.Atom], slices.Clone[[]string]))
	}
	return out
}

func (r cacheAnswers) scribbleOver() {
	for _, cache := range r.caches {
		scribbleCache(cache)
	}
	scribble(r.strata, impl.Stratum{Type: "scribbled", Level: -7})
	scribble(r.facts, impl.Fact{Type: "scribbled"})
}

func manyCacheArguments() []cacheArguments {
	good, from := goodCacheArguments(), drawn()
	all := []cacheArguments{good, {}, {schema: good.schema}}
	change := func(change func(a *cacheArguments)) {
		a := goodCacheArguments()
		change(&a)
		all = append(all, a)
	}
	for _, many := range []int{0, 1, 19, 20, 21} {
		change(func(a *cacheArguments) { a.cache = shelfCache(many) })
		change(func(a *cacheArguments) { a.cache, a.least, a.window = shelfCache(many), 7, 0 })
	}
	for i, cache := range badCaches() {
		if len(cache) < 100 && i%3 == 0 {
			change(func(a *cacheArguments) { a.cache = cache })
		}
	}
	for i, v := range oddValues() {
		if isRecord(v) || i%4 == 0 {
			change(func(a *cacheArguments) { a.given = v })
		}
	}
	for _, bad := range badAsks()[:10] {
		change(func(a *cacheArguments) { a.ask = bad })
	}
	for _, num := range []int{math.MinInt, -1, 8, 1001, math.MaxInt} {
		change(func(a *cacheArguments) { a.least, a.window = num, num })
	}
	for _, bad := range badStores()[4:] {
		change(func(a *cacheArguments) { a.batches, a.writes = bad, bad[0] })
		change(func(a *cacheArguments) { a.schema, a.batches, a.cache = stores(), bad, shelfCache(1) })
	}
	for _, bad := range badTupleLists()[4:] {
		change(func(a *cacheArguments) { a.list, a.writes = bad, writesWith(impl.WriteCreate, bad) })
	}
	for range 40 {
		s := drawnGoodRel(from, false)
		store := drawnStoreIn(from, s, 4)
		list := storeByWords(s, store)[4]
		a := cacheArguments{schema: s, batches: store, cache: drawnCache(from, s, store, 6), list: list, ask: drawnAskOf(from, s, list), given: drawnGivenIn(from, s), least: 2, window: 2}
		a.writes, _ = drawnBatchIn(from, s, list, 5)
		a.facts = factsByWords(s, list, a.ask, a.given)
		all = append(all, a)
	}
	turned := good.roomy()
	slices.Reverse(turned.cache)
	slices.Reverse(turned.list)
	slices.Reverse(turned.facts)
	slices.Reverse(turned.writes)
	slices.Reverse(turned.schema.Types)
	return append(all, turned)
}

func TestArgumentsOfCachesStayAsTheyWere(t *testing.T) {
	for i, told := range manyCacheArguments() {
		a := told.roomy()
		before := a.opened()
		first := a.answers()
		if !reflect.DeepEqual(a.opened(), before) {
			t.Errorf("arguments %d changed", i)
		}
		first.scribbleOver()
		if !reflect.DeepEqual(a.opened(), before) {
			t.Errorf("arguments %d changed with their answers", i)
		}
	}
}

func TestAnswersOfCachesShareNothing(t *testing.T) {
	for i, told := range manyCacheArguments() {
		a := told.roomy()
		kept := a.answers().copied()
		first, second := a.answers(), a.answers()
		first.scribbleOver()
		a.scribbleOver()
		if !reflect.DeepEqual(second.copied(), kept) {
			t.Errorf("answers %d changed with their arguments, or with other answers", i)
		}
	}
}

// askCacheApart writes over the lists of one entry after the other, with the room behind them, while all others are looked at.
func askCacheApart(t *testing.T, cache []impl.Kept, what string) {
	t.Helper()
	before := everyKept(cache, slices.Clone[[]impl.Kept], slices.Clone[[]impl.Atom], slices.Clone[[]string])
	for i, k := range cache {
		scribble(k.Given.Items, numAtom(-7))
		scribble(k.Given.Names, "scribbled")
		for j, other := range cache {
			if j != i && !sameKept(other, before[j]) {
				t.Fatalf("%s: entries %d and %d share memory", what, i, j)
			}
		}
		copy(k.Given.Items, before[i].Given.Items)
		copy(k.Given.Names, before[i].Given.Names)
		if !sameCache(cache, before) {
			t.Fatalf("%s: the lists of entry %d share memory", what, i)
		}
	}
}

// A list that comes more than once in the arguments comes in memory of its own each time.
func TestListsOfOneCacheShareNothing(t *testing.T) {
	s, store := desks(), shelves()
	given := givenOf("{now:@3,x:1,zone:\"a\"}")
	var cache []impl.Kept
	for _, user := range []string{"ann", "bob", "cy", "dan"} {
		cache = append(cache, impl.Kept{Ask: askOf("doc:d1#view@user:" + user), Given: given, Rev: 6, Value: impl.No})
	}
	_, _, first := impl.AskKept(s, store, cache, askOf("doc:d1#view@user:eve"), given, 0)
	_, _, second := impl.AskKept(s, store, cache, cache[2].Ask, given, 6)
	_, _, third := impl.AskKept(s, store, cache, cache[2].Ask, given, 7)
	for what, kept := range map[string][]impl.Kept{"a new ask": first, "an entry": second, "an entry that is too old": third, "Freshen": impl.Freshen(s, store, cache), "Purge": impl.Purge(s, store, cache, 1)} {
		if len(kept) < 4 {
			t.Fatalf("%s: got %s", what, cacheText(kept))
		}
		askCacheApart(t, kept, what)
	}
	if !sameValue(given, givenOf("{now:@3,x:1,zone:\"a\"}")) {
		t.Errorf("what is given shares memory with an answer")
	}
}

func TestAnEmptyListOfCachesIsTheNilList(t *testing.T) {
	s, a := desks(), askOf("doc:d1#view@user:ann")
	empty := impl.Value{Kind: impl.ValueRecord, Items: []impl.Atom{}, Names: make([]string, 0, 5)}
	for _, store := range [][][]impl.Write{nil, {}, {nil}, {{}, make([]impl.Write, 0, 5)}} {
		for _, cache := range [][]impl.Kept{nil, {}, make([]impl.Kept, 0, 5)} {
			if !impl.GoodCache(s, store, cache) || !impl.Honest(s, store, cache) || len(impl.Freshen(s, store, cache))+len(impl.Purge(s, store, cache, 0)) != 0 {
				t.Errorf("an empty cache by %d batches: want it good, and nothing told", len(store))
			}
			for _, given := range []impl.Value{recordValue(nil), empty} {
				value, rev, kept := impl.AskKept(s, store, cache, a, given, 0)
				if value != impl.No || rev != len(store) || len(kept) != 1 {
					t.Errorf("an empty cache by %d batches: got %d, %d, %s", len(store), value, rev, cacheText(kept))
				}
				// The one is found by the other.
				for _, other := range []impl.Value{recordValue(nil), empty} {
					if _, _, again := impl.AskKept(s, append(slices.Clone(store), nil), kept, a, other, 0); !sameCache(again, kept) {
						t.Errorf("an empty record: got %s", cacheText(again))
					}
				}
			}
		}
	}
	for _, writes := range [][]impl.Write{nil, {}, make([]impl.Write, 0, 5)} {
		if got := impl.Affected(s, writes); len(got) != 0 {
			t.Errorf("no writes: got %q", strataText(got))
		}
		for _, list := range [][]impl.Tuple{nil, {}} {
			for _, facts := range [][]impl.Fact{nil, {}} {
				if got := impl.UpdateFacts(s, list, a, empty, facts, writes); len(got) != 0 {
					t.Errorf("no writes: got %s", factsText(got))
				}
			}
		}
	}
}
