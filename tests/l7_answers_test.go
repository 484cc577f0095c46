package tests

import (
	"math"
	"reflect"
	"slices"
	"strings"
	"testing"

	"loop.example/g00036/impl"
)

func oddTuples() []impl.Tuple {
	all := unfitTuples()
	for _, g := range fitTuples() {
		all = append(all, g.tuple)
	}
	long := strings.Repeat("[", 9000)
	return append(all,
		impl.Tuple{Type: long, Id: long, Rel: long, SubType: long, SubId: long, SubRel: long, Caveat: long},
		impl.Tuple{Type: "doc", Id: "d", Rel: "owner", SubType: "user", SubId: "ann", Caveat: "fresh", Given: impl.Value{Kind: impl.ValueRecord, Names: make([]string, 3000), Items: make([]impl.Atom, 3000)}},
		impl.Tuple{Given: impl.Value{Kind: math.MinInt}},
	)
}

// oddTupleTexts are texts of every sort, well formed or not.
func oddTupleTexts() []string {
	texts := append(oddRelTexts(), badTupleTexts()...)
	texts = append(texts, plainTexts()...)
	for _, text := range texts {
		if len(text) < 300 {
			texts = append(texts, "a:a#a@a:a[c:"+text+"]", text+":a#a@a:a", "a:"+text+"#a@a:a", "a:a#"+text+"@a:a", "a:a#a@"+text+":a", "a:a#a@a:"+text, "a:a#a@a:a#"+text, "a:a#a@a:a["+text+":{}]")
		}
	}
	for _, s := range []string{":", "#", "@", "[", "]", "a:a#a@a:a[", "a:", "[c:{", "[c:{}]", "r", "r1.", ".", "\"]"} {
		texts = append(texts, strings.Repeat(s, 3000), "a:a#a@a:a[c:"+strings.Repeat(s, 3000), "a:a#a@a:a[c:{a:\""+strings.Repeat(s, 3000)+"\"}]")
	}
	return texts
}

func TestStoresAnswerAtAnyText(t *testing.T) {
	s := stores()
	for _, text := range oddTupleTexts() {
		got, ok := impl.ReadTuple(text)
		want, also := readTupleByWords(text)
		if ok != also || !sameTuple(got, want) {
			t.Errorf("ReadTuple(%.100q): got %.200s, %v", text, shown(got), ok)
		}
		for _, secret := range []int{0, 5} {
			if got, ok := impl.ReadToken(secret, text); ok || got != 0 {
				t.Errorf("ReadToken(%d, %.100q): got %d, %v", secret, text, got, ok)
			}
		}
		for _, x := range []impl.Tuple{{Type: text}, {Id: text}, {Rel: text, Caveat: text}, {Type: "doc", Id: text, Rel: "owner", SubType: "user", SubId: text}, {Type: "doc", Id: "d", Rel: text, SubType: text, SubId: "a", SubRel: text}, {Type: "doc", Id: "d", Rel: "owner", SubType: "user", SubId: "a", Caveat: text, Given: recordValue([]string{text}, textAtom(text))}} {
			if got := impl.TupleText(x); got != tupleTextByWords(x) {
				t.Errorf("TupleText with %.100q: got %.100q", text, got)
			}
			if got := impl.GoodTuple(s, x); got != fitsByWords(s, x) {
				t.Errorf("GoodTuple with %.100q: got %v", text, got)
			}
		}
	}
}

func TestStoresAnswerAtAnyTuple(t *testing.T) {
	s := stores()
	for i, x := range oddTuples() {
		good := fitsByWords(s, x)
		if got := impl.GoodTuple(s, x); got != good {
			t.Errorf("tuple %d: got %v", i, got)
		}
		if got := impl.GoodTuples(s, []impl.Tuple{x}); got != good {
			t.Errorf("the list of tuple %d: got %v", i, got)
		}
		if got := impl.TupleText(x); got != tupleTextByWords(x) {
			t.Errorf("tuple %d: got the text %.200q", i, got)
		}
		if got := impl.Unfit(s, []impl.Tuple{x, x}); (len(got) == 0) != good {
			t.Errorf("tuple %d: Unfit told %v", i, got)
		}
		for _, kind := range append(badKinds(), 1, 2, 3, 4, 5) {
			writes := []impl.Write{{Kind: kind, Tuple: x}}
			if got := impl.ApplyWrites(s, nil, writes); !sameStoreRes(got, doneByWords(s, nil, writes)) {
				t.Errorf("tuple %d, kind %d: got Err %d", i, kind, got.Err)
			}
			if got := impl.ApplyWrites(s, []impl.Tuple{x}, writes); !sameStoreRes(got, applyByWords(s, []impl.Tuple{x}, writes)) {
				t.Errorf("tuple %d, kind %d, on itself: got Err %d", i, kind, got.Err)
			}
			batches, err := impl.AcceptBatch(s, nil, writes)
			want, wanted := acceptByWords(s, nil, writes)
			if err != wanted || !sameBatches(batches, want) {
				t.Errorf("tuple %d, kind %d: AcceptBatch told %d", i, kind, err)
			}
			if got := impl.TuplesAt(s, [][]impl.Write{writes}, 1); (len(got) > 0) != (good && kind < 3 && kind > 0) {
				t.Errorf("tuple %d, kind %d: got %d tuples", i, kind, len(got))
			}
			if got := impl.ChangesBetween(s, [][]impl.Write{writes}, 0, 1); (len(got) > 0) != (good && kind < 3 && kind > 0) {
				t.Errorf("tuple %d, kind %d: got %d changes", i, kind, len(got))
			}
		}
	}
}

func TestStoresAnswerAtAnySchema(t *testing.T) {
	list := tuplesOf("a:a#r@a:a", "doc:d1#owner@user:ann", "group:g#member@user:ann", "t10:x#r10@t10:x")
	var writes []impl.Write
	for _, x := range list {
		writes = append(writes, impl.Write{Kind: impl.WriteTouch, Tuple: x})
	}
	for i, s := range oddRels() {
		good := goodRelByWords(s)
		var unfit []int
		for j, x := range list {
			fit := good && fitsByWords(s, x)
			if got := impl.GoodTuple(s, x); got != fit {
				t.Errorf("schema %d, %s: got %v", i, tupleTextByWords(x), got)
			}
			if !fit {
				unfit = append(unfit, j)
			}
			if got := impl.GoodTuples(s, []impl.Tuple{x}); got != fit {
				t.Errorf("schema %d, the list of %s: got %v", i, tupleTextByWords(x), got)
			}
			got, want := impl.ApplyWrites(s, nil, writes[j:j+1]), impl.StoreRes{Err: 1}
			if good {
				want = doneByWords(s, nil, writes[j:j+1])
			}
			if !sameStoreRes(got, want) {
				t.Errorf("schema %d, a touch of %s: got Err %d", i, tupleTextByWords(x), got.Err)
			}
		}
		if got := impl.Unfit(s, list); !slices.Equal(got, unfit) {
			t.Errorf("schema %d: Unfit told %v", i, got)
		}
		if got := impl.GoodTuples(s, nil); got != good {
			t.Errorf("schema %d, no tuples: got %v", i, got)
		}
		if got, err := impl.AcceptBatch(s, nil, nil); good && (len(got) != 1 || err != 0) || !good && (len(got) != 0 || err != 7) {
			t.Errorf("schema %d: AcceptBatch told %d, %d batches", i, err, len(got))
		}
		if got := impl.TuplesAt(s, [][]impl.Write{writes}, 1); len(got) > 0 || len(impl.ChangesBetween(s, [][]impl.Write{writes}, 0, 1)) > 0 {
			t.Errorf("schema %d: got %d tuples", i, len(got))
		}
	}
}

func TestStoresAnswerAtAnyNumbers(t *testing.T) {
	s := stores()
	good := [][]impl.Write{writesOf("touch " + annOwns), writesOf("touch " + bobOwns)}
	for _, store := range append(badStores(), nil, good, fullStore(60)) {
		all := storeByWords(s, store)
		for _, from := range append(oddInts(), 60, 61) {
			var list []impl.Tuple
			if isBetween(from, 0, len(all)-1) {
				list = all[from]
			}
			if got := impl.TuplesAt(s, store, from); !sameTuples(got, list) {
				t.Errorf("TuplesAt %d of a store of %d: got %d tuples", from, len(store), len(got))
			}
			for _, to := range []int{math.MinInt, -1, 0, 1, 2, 3, 60, 61, math.MaxInt} {
				var changes []impl.Write
				if isBetween(to, 0, len(all)-1) && isBetween(from, 0, to) {
					changes = changesByWords(all[from], all[to])
				}
				if got := impl.ChangesBetween(s, store, from, to); !sameWrites(got, changes) {
					t.Errorf("ChangesBetween %d and %d of a store of %d: got %d", from, to, len(store), len(got))
				}
			}
		}
	}
	for _, secret := range oddInts() {
		for _, rev := range oddInts() {
			if got := impl.TokenOf(secret, rev); got != tokenByWords(secret, rev) {
				t.Errorf("TokenOf(%d, %d): got %q", secret, rev, got)
			}
		}
	}
}

// storeArguments are all that the functions of the chapter take, but for texts and numbers.
type storeArguments struct {
	schema  impl.RelSchema
	list    []impl.Tuple
	batches [][]impl.Write
	writes  []impl.Write
}

// everyGiven is the tuple with the lists of what is given gone through by what is told for them.
func everyGiven(x impl.Tuple, items func([]impl.Atom) []impl.Atom, names func([]string) []string) impl.Tuple {
	x.Given.Items, x.Given.Names = items(x.Given.Items), names(x.Given.Names)
	return x
}

func roomyTuple(x impl.Tuple) impl.Tuple {
	return everyGiven(x, func(list []impl.Atom) []impl.Atom { return withRoom(list, numAtom(-7)) }, func(list []string) []string { return withRoom(list, "behind") })
}

func openedTuple(x impl.Tuple) impl.Tuple {
	return everyGiven(x, opened[impl.Atom], opened[string])
}

func roomyTuples(list []impl.Tuple) []impl.Tuple {
	out := withRoom(list, impl.Tuple{Type: "behind"})
	for i, x := range out {
		out[i] = roomyTuple(x)
	}
	return out
}

func openedTuples(list []impl.Tuple) []impl.Tuple {
	out := opened(list)
	for i, x := range out {
		out[i] = openedTuple(x)
	}
	return out
}

func roomyWrites(writes []impl.Write) []impl.Write {
	out := withRoom(writes, impl.Write{Kind: -7})
	for i, w := range out {
		out[i].Tuple = roomyTuple(w.Tuple)
	}
	return out
}

func openedWrites(writes []impl.Write) []impl.Write {
	out := opened(writes)
	for i, w := range out {
		out[i].Tuple = openedTuple(w.Tuple)
	}
	return out
}

func (a storeArguments) roomy() storeArguments {
	out := storeArguments{schema: relArguments{schema: a.schema}.roomy().schema, list: roomyTuples(a.list), writes: roomyWrites(a.writes)}
	out.batches = withRoom(a.batches, []impl.Write{{Kind: -7}})
	for i, writes := range out.batches {
		out.batches[i] = roomyWrites(writes)
	}
	return out
}

func (a storeArguments) opened() storeArguments {
	out := storeArguments{schema: relArguments{schema: a.schema}.opened().schema, list: openedTuples(a.list), writes: openedWrites(a.writes)}
	out.batches = opened(a.batches)
	for i, writes := range out.batches {
		out.batches[i] = openedWrites(writes)
	}
	return out
}

func scribbleTuple(x impl.Tuple) {
	scribble(x.Given.Items, numAtom(-7))
	scribble(x.Given.Names, "scribbled")
}

func scribbleTuples(list []impl.Tuple) {
	for _, x := range list {
		scribbleTuple(x)
	}
	scribble(list, impl.Tuple{Type: "scribbled"})
}

func scribbleWrites(writes []impl.Write) {
	for _, w := range writes {
		scribbleTuple(w.Tuple)
	}
	scribble(writes, impl.Write{Kind: -7})
}

func scribbleBatches(batches [][]impl.Write) {
	for _, writes := range batches {
		scribbleWrites(writes)
	}
	scribble(batches, []impl.Write{{Kind: -7}})
}

func (a storeArguments) scribbleOver() {
	scribbleRel(a.schema)
	scribbleTuples(a.list)
	scribbleBatches(a.batches)
	scribbleWrites(a.writes)
}

// storeAnswers are all that the functions of the chapter answer.
type storeAnswers struct {
	tuples  [][]impl.Tuple
	batches [][][]impl.Write
	numbers [][]int
	rest    []any
}

func (a storeArguments) ask() storeAnswers {
	res := impl.ApplyWrites(a.schema, a.list, a.writes)
	store, err := impl.AcceptBatch(a.schema, a.batches, a.writes)
	out := storeAnswers{
		tuples:  [][]impl.Tuple{res.Tuples},
		batches: [][][]impl.Write{store},
		numbers: [][]int{impl.Unfit(a.schema, a.list)},
		rest:    []any{res.Err, res.At, err, impl.GoodTuples(a.schema, a.list)},
	}
	for _, x := range a.list {
		text := impl.TupleText(x)
		read, ok := impl.ReadTuple(text)
		out.tuples = append(out.tuples, []impl.Tuple{read})
		out.rest = append(out.rest, text, ok, impl.GoodTuple(a.schema, x))
	}
	for rev := range len(a.batches) + 1 {
		out.tuples = append(out.tuples, impl.TuplesAt(a.schema, a.batches, rev))
		out.batches = append(out.batches, [][]impl.Write{impl.ChangesBetween(a.schema, a.batches, 0, rev), impl.ChangesBetween(a.schema, a.batches, rev, len(a.batches))})
	}
	return out
}

// copied is the same answers in memory of their own.
func (r storeAnswers) copied() storeAnswers {
	out := storeAnswers{rest: r.rest}
	for _, list := range r.tuples {
		out.tuples = append(out.tuples, slices.Clone(openedTuples(slices.Clip(list))))
	}
	for _, batches := range r.batches {
		out.batches = append(out.batches, storeArguments{batches: slices.Clip(batches)}.opened().batches)
	}
	for _, numbers := range r.numbers {
		out.numbers = append(out.numbers, slices.Clone(numbers))
	}
	return out
}

func (r storeAnswers) scribbleOver() {
	for _, list := range r.tuples {
		scribbleTuples(list)
	}
	for _, batches := range r.batches {
		scribbleBatches(batches)
	}
	for _, numbers := range r.numbers {
		scribble(numbers, -7)
	}
}

func manyStoreArguments() []storeArguments {
	s, from := stores(), drawn()
	all := []storeArguments{
		{s, tuplesOf(annNow, bobOwns), [][]impl.Write{writesOf("create "+annNow, "create "+bobOwns), {}, writesOf("drop " + annFresh)}, writesOf("touch "+annLater, "touch "+groupSees)},
		{s, tuplesOf(annNow), [][]impl.Write{writesOf("create " + annNow), writesOf("touch " + annLater)}, writesOf("must "+annNow, "create "+bobOwns)},
		{s, nil, nil, nil},
		{impl.RelSchema{}, nil, nil, nil},
		{s, countedTuples(0, 150), fullStore(7), nil},
		{s, tuplesOf("a:a#a@a:a[c:{a:1}]"), [][]impl.Write{writesOf("touch a:a#a@a:a[c:{a:1}]")}, writesOf("drop a:a#a@a:a[c:{a:1}]")},
		{relOf("type a", " relation r: b"), tuplesOf(annNow), [][]impl.Write{writesOf("create " + annNow)}, writesOf("touch " + annLater)},
	}
	for range 40 {
		store := drawnStore(from, 5)
		all = append(all, storeArguments{s, storeByWords(s, store)[4], store, drawnBatch(from, 4)})
	}
	bad, wrong := badStores()[4:], badBatches()
	for _, list := range badTupleLists()[4:] {
		all = append(all, storeArguments{s, list, bad[0], wrong[4][1]})
	}
	for _, store := range bad {
		all = append(all, storeArguments{s, fitLists()[0], store, wrong[2][0]})
	}
	for _, list := range fitLists() {
		all = append(all, storeArguments{s, list, [][]impl.Write{writesWith(impl.WriteCreate, list)}, writesWith(impl.WriteDrop, list)}, storeArguments{s, list, nil, writesWith(impl.WriteTouch, list)})
	}
	return all
}

// fitLists are the tuples that fit, each in a list of its own.
func fitLists() [][]impl.Tuple {
	var lists [][]impl.Tuple
	for _, g := range fitTuples() {
		lists = append(lists, []impl.Tuple{g.tuple})
	}
	return lists
}

func TestArgumentsOfStoresStayAsTheyWere(t *testing.T) {
	for i, told := range manyStoreArguments() {
		a := told.roomy()
		before := a.opened()
		first := a.ask()
		if !reflect.DeepEqual(a.opened(), before) {
			t.Errorf("arguments %d changed", i)
		}
		first.scribbleOver()
		if !reflect.DeepEqual(a.opened(), before) {
			t.Errorf("arguments %d changed with their answers", i)
		}
	}
}

func TestAnswersOfStoresShareNothing(t *testing.T) {
	for i, told := range manyStoreArguments() {
		a := told.roomy()
		kept := a.ask().copied()
		first, second := a.ask(), a.ask()
		first.scribbleOver()
		a.scribbleOver()
		if !reflect.DeepEqual(second.copied(), kept) {
			t.Errorf("answers %d changed with their arguments, or with other answers", i)
		}
	}
}

// askApart writes over the lists of one tuple after the other, with the room behind them, while all others are looked at.
func askApart(t *testing.T, all []*impl.Tuple, what string) {
	var before []impl.Tuple
	for _, x := range all {
		before = append(before, openedTuple(everyGiven(*x, slices.Clip[[]impl.Atom], slices.Clip[[]string])))
	}
	for i, x := range all {
		scribble(x.Given.Items, numAtom(-7))
		copy(x.Given.Items, before[i].Given.Items)
		scribble(x.Given.Names, "scribbled")
		copy(x.Given.Names, before[i].Given.Names)
		for j, other := range all {
			if !sameTuple(*other, before[j]) {
				t.Fatalf("%s: tuples %d and %d share memory", what, i, j)
			}
		}
	}
}

// A list that comes more than once in the arguments comes in memory of its own each time.
func TestListsOfOneStoreShareNothing(t *testing.T) {
	s := stores()
	one := tupleOf(annNow)
	two := one
	two.SubId = "bob"
	store := [][]impl.Write{{{Kind: impl.WriteTouch, Tuple: one}, {Kind: impl.WriteTouch, Tuple: two}}, {{Kind: impl.WriteTouch, Tuple: one}}, {{Kind: impl.WriteTouch, Tuple: two}, {Kind: impl.WriteDrop, Tuple: one}}}
	store = append(store, store[0])
	got, err := impl.AcceptBatch(s, store, store[0])
	if err != 0 || len(got) != 5 {
		t.Fatalf("AcceptBatch told %d, %d batches", err, len(got))
	}
	var all []*impl.Tuple
	for _, batch := range got {
		for i := range batch {
			all = append(all, &batch[i].Tuple)
		}
	}
	askApart(t, all, "AcceptBatch")
	before := storeArguments{batches: slices.Clip(got)}.opened().batches
	for i := range got {
		whole := slices.Clone(got[i])
		scribble(got[i], impl.Write{Kind: -7})
		copy(got[i], whole)
		if !sameBatches(got, before) {
			t.Errorf("batch %d shares memory with another", i)
		}
	}
	for what, list := range map[string][]impl.Tuple{"TuplesAt": impl.TuplesAt(s, store, 2), "ApplyWrites": impl.ApplyWrites(s, nil, store[0]).Tuples, "ApplyWrites on a list": impl.ApplyWrites(s, []impl.Tuple{one, two}, nil).Tuples} {
		if len(list) != 2 {
			t.Fatalf("%s: got %d tuples", what, len(list))
		}
		askApart(t, []*impl.Tuple{&list[0], &list[1]}, what)
	}
	changes := impl.ChangesBetween(s, store, 0, 1)
	if len(changes) != 2 {
		t.Fatalf("ChangesBetween: got %d", len(changes))
	}
	askApart(t, []*impl.Tuple{&changes[0].Tuple, &changes[1].Tuple}, "ChangesBetween")
}

func TestAnEmptyListOfStoresIsTheNilList(t *testing.T) {
	s := stores()
	empty := tupleOf(annOwns)
	empty.Given = impl.Value{Items: []impl.Atom{}, Names: make([]string, 0, 5)}
	bound := tupleOf(annFresh)
	bound.Given.Items, bound.Given.Names = []impl.Atom{}, []string{}
	if !impl.GoodTuple(s, empty) || impl.TupleText(empty) != annOwns || !impl.GoodTuple(s, bound) || impl.TupleText(bound) != annFresh {
		t.Errorf("tuples with empty lists: got %q, %q", impl.TupleText(empty), impl.TupleText(bound))
	}
	for _, list := range [][]impl.Tuple{nil, {}} {
		for _, writes := range [][]impl.Write{nil, {}} {
			if got := impl.ApplyWrites(s, list, writes); got.Err != 0 || len(got.Tuples) != 0 || !impl.GoodTuples(s, list) || len(impl.Unfit(s, list)) != 0 {
				t.Errorf("empty lists: got Err %d", got.Err)
			}
			for _, batches := range [][][]impl.Write{nil, {}} {
				if got, err := impl.AcceptBatch(s, batches, writes); err != 0 || len(got) != 1 {
					t.Errorf("empty batches: got Err %d", err)
				}
			}
		}
	}
	// Between an empty list and none nothing has changed.
	store := [][]impl.Write{{{Kind: impl.WriteTouch, Tuple: empty}, {Kind: impl.WriteTouch, Tuple: tupleOf(bobOwns + "[fresh:{}]")}}, {{Kind: impl.WriteTouch, Tuple: tupleOf(annOwns)}}, {{Kind: impl.WriteTouch, Tuple: bound}}, {{Kind: impl.WriteTouch, Tuple: tupleOf(annFresh)}}}
	for _, c := range []struct {
		from, to, want int
	}{{0, 1, 2}, {1, 2, 0}, {2, 3, 1}, {3, 4, 0}} {
		if got := impl.ChangesBetween(s, store, c.from, c.to); len(got) != c.want {
			t.Errorf("changes from %d to %d: got %s", c.from, c.to, writesText(got))
		}
	}
}
