package tests

import (
	"bytes"
	"math"
	"reflect"
	"slices"
	"strconv"
	"strings"
	"sync"
	"testing"

	"loop.example/g00036/impl"
)

// logArguments are all that the functions of the chapter take.
type logArguments struct {
	entry  impl.LogEntry
	list   []impl.LogEntry
	at     int
	old    int
	path   pathCase
	bridge bridgeCase
	secret int
	public int
	head   impl.LogHead
}

func logArgumentsOf(list []impl.LogEntry, at int, old int) logArguments {
	return logArguments{entry: list[at], list: list, at: at, old: old, path: pathCaseOf(list, at), bridge: bridgeCaseOf(list, old), secret: 77, public: impl.PublicOf(77), head: impl.SignHead(77, list)}
}

func plainLogArguments() logArguments {
	return logArgumentsOf(logged(7), 4, 5)
}

// askWords holds all functions of the chapter against the words.
func (a logArguments) askWords(t *testing.T, what string) {
	t.Helper()
	before := t.Failed()
	askLogEntry(t, a.entry)
	tree := treeByWords(a.list)
	askTree(t, a.list, tree, a.at, a.old)
	if got, want := a.path.check(), a.path.byWords(); got != want {
		t.Errorf("CheckPath: got %v", got)
	}
	if got, want := a.bridge.check(), a.bridge.byWords(); got != want {
		t.Errorf("CheckBridge: got %v", got)
	}
	askSignHead(t, a.secret, a.list, tree)
	if got, want := impl.CheckHead(a.public, a.head), checkHeadByWords(a.public, a.head); got != want {
		t.Errorf("CheckHead: got %v", got)
	}
	if t.Failed() && !before {
		t.Errorf("first with %.200s", what)
	}
}

func TestPlainLogArguments(t *testing.T) {
	a := plainLogArguments()
	a.askWords(t, "the plain arguments")
	told := a.ask()
	if told.holds != [4]bool{true, true, true, true} || len(told.path) != 3 || len(told.bridge) != 4 || told.head.Size != 7 || slices.ContainsFunc(told.sums[:], func(sum []byte) bool { return len(sum) != 16 }) || len(told.redacted.Cover) != 16 {
		t.Errorf("the plain arguments are not taken: %s", told.told())
	}
}

func oddLogTexts() []string {
	var texts []string
	for i, text := range append(oddTexts(), notPrinted()...) {
		if i%3 == 0 {
			texts = append(texts, text)
		}
	}
	for _, length := range []int{0, 1, 59, 60, 61, 199, 200, 201, 20000, 20001, 100000} {
		texts = append(texts, strings.Repeat("w", length), strings.Repeat("\xff", length))
	}
	return texts
}

func TestLogsAnswerAtAnyText(t *testing.T) {
	for _, text := range oddLogTexts() {
		for i, place := range []func(a *logArguments){
			func(a *logArguments) { a.entry.Who = text },
			func(a *logArguments) { a.entry.What = text },
			func(a *logArguments) { a.entry.Salt = []byte(text) },
			func(a *logArguments) { a.entry.Cover = []byte(text) },
			func(a *logArguments) { a.entry = impl.LogEntry{Cover: []byte(text)} },
			func(a *logArguments) { a.list[3].Who = text },
			func(a *logArguments) { a.list[6].What = text },
			func(a *logArguments) { a.list[0].Salt = []byte(text) },
			func(a *logArguments) { a.list[2].Cover = []byte(text) },
			func(a *logArguments) { a.path.leaf = []byte(text) },
			func(a *logArguments) { a.path.root = []byte(text) },
			func(a *logArguments) { a.path.path[1] = []byte(text) },
			func(a *logArguments) {
				a.path.leaf, a.path.root, a.path.at, a.path.size, a.path.path = []byte(text), []byte(text), 0, 1, nil
			},
			func(a *logArguments) { a.bridge.oldRoot = []byte(text) },
			func(a *logArguments) { a.bridge.root = []byte(text) },
			func(a *logArguments) { a.bridge.bridge[0] = []byte(text) },
			func(a *logArguments) { a.bridge.bridge[3] = []byte(text) },
			func(a *logArguments) {
				a.bridge.oldRoot, a.bridge.root, a.bridge.old, a.bridge.bridge = []byte(text), []byte(text), 7, nil
			},
			func(a *logArguments) { a.head.Root = []byte(text) },
			func(a *logArguments) {
				if len(text) < 300 {
					a.head = signedHead(77, impl.LogHead{Size: 7, Root: []byte(text)})
				}
			},
		} {
			a := plainLogArguments()
			place(&a)
			a.askWords(t, "place "+strconv.Itoa(i)+" of "+text)
		}
	}
}

func TestLogsAnswerAtAnyNumbers(t *testing.T) {
	for _, num := range append(oddInts(), 5, 6, 7, 8, 9, 199, 200, 201, lastTime-1, lastTime, lastTime+1, -lastTime, 1<<32+4, 1<<32+7, impl.PublicOf(77)) {
		for i, place := range []func(a *logArguments){
			func(a *logArguments) { a.entry.Time = num },
			func(a *logArguments) { a.list[5].Time = num },
			func(a *logArguments) { a.at = num },
			func(a *logArguments) { a.old = num },
			func(a *logArguments) { a.at, a.old = num, num },
			func(a *logArguments) { a.path.at = num },
			func(a *logArguments) { a.path.size = num },
			func(a *logArguments) { a.path.at, a.path.size = num-1, num },
			func(a *logArguments) { a.path.at, a.path.size = num, num },
			func(a *logArguments) { a.path.at, a.path.size, a.path.path = 0, num, nil },
			func(a *logArguments) { a.bridge.old = num },
			func(a *logArguments) { a.bridge.size = num },
			func(a *logArguments) { a.bridge.old, a.bridge.size = num, num },
			func(a *logArguments) { a.bridge.old, a.bridge.size = num-1, num },
			func(a *logArguments) {
				a.bridge.old, a.bridge.size, a.bridge.oldRoot, a.bridge.bridge = num, num, a.bridge.root, nil
			},
			func(a *logArguments) { a.secret = num },
			func(a *logArguments) { a.secret, a.list = num, nil },
			func(a *logArguments) { a.public = num },
			func(a *logArguments) { a.head.Size = num },
			func(a *logArguments) { a.head = signedHead(77, impl.LogHead{Size: num, Root: a.head.Root}) },
			func(a *logArguments) { a.head.Sig.R = num },
			func(a *logArguments) { a.head.Sig.Z = num },
			func(a *logArguments) { a.head.Sig = impl.Sig{R: num, Z: num} },
		} {
			a := plainLogArguments()
			place(&a)
			a.askWords(t, "place "+strconv.Itoa(i)+" of "+strconv.Itoa(num))
		}
	}
}

func TestLogsAnswerAtAnyLists(t *testing.T) {
	ask := func(what string, change func(a *logArguments)) {
		t.Helper()
		a := plainLogArguments()
		change(&a)
		a.askWords(t, what)
	}
	for _, many := range []int{0, 1, 2, 3, 4, 5, 7, 8, 9, 15, 16, 17, 199, 200, 201, 1000, 20000} {
		what := strconv.Itoa(many) + " of them"
		ask(what, func(a *logArguments) { a.list = make([]impl.LogEntry, many) })
		ask(what, func(a *logArguments) { a.list, a.at, a.old = make([]impl.LogEntry, many), many-1, many })
		ask(what, func(a *logArguments) { a.list, a.at, a.old = logged(min(many, 300)), many/2, many/2 })
		ask(what, func(a *logArguments) { a.list = append(make([]impl.LogEntry, many), impl.LogEntry{Time: -1}) })
		ask(what, func(a *logArguments) { a.path.path, a.bridge.bridge = make([][]byte, many), make([][]byte, many) })
		ask(what, func(a *logArguments) {
			a.path.path, a.bridge.bridge = slices.Repeat([][]byte{make([]byte, 16)}, many), slices.Repeat([][]byte{countedBytes(16)}, many)
		})
		ask(what, func(a *logArguments) {
			a.path.path, a.bridge.bridge = a.path.path[:min(many, 3)], a.bridge.bridge[:min(many, 4)]
		})
		ask(what, func(a *logArguments) {
			a.path.path, a.bridge.bridge = append(a.path.path, make([][]byte, many)...), append(a.bridge.bridge, make([][]byte, many)...)
		})
		ask(what, func(a *logArguments) { a.path.leaf, a.bridge.oldRoot = make([]byte, many), make([]byte, many) })
		ask(what, func(a *logArguments) {
			a.path.root, a.bridge.root, a.head.Root = make([]byte, many), make([]byte, many), make([]byte, many)
		})
		ask(what, func(a *logArguments) { a.entry.Salt, a.list[1].Salt = make([]byte, many), make([]byte, many) })
		ask(what, func(a *logArguments) { a.entry.Cover, a.list[2].Cover = make([]byte, many), make([]byte, many) })
	}
	for i, e := range append(goodLogEntries(), badLogEntries()...) {
		ask("entry "+strconv.Itoa(i), func(a *logArguments) { a.entry, a.list[i%7] = e, e })
	}
	for i, other := range wrongPaths(plainLogArguments().path) {
		ask("path "+strconv.Itoa(i), func(a *logArguments) { a.path = other })
	}
	for i, other := range wrongBridges(plainLogArguments().bridge) {
		ask("bridge "+strconv.Itoa(i), func(a *logArguments) { a.bridge = other })
	}
	for i, other := range wrongHeads(77, plainLogArguments().head) {
		ask("head "+strconv.Itoa(i), func(a *logArguments) { a.head = other })
	}
	ask("nothing", func(a *logArguments) { *a = logArguments{} })
}

// everyLogList is the arguments with each of their lists gone through by what is told for it.
func (a logArguments) everyLogList(data func([]byte) []byte, parts func([][]byte) [][]byte, entries func([]impl.LogEntry) []impl.LogEntry) logArguments {
	within := func(e impl.LogEntry) impl.LogEntry {
		e.Salt, e.Cover = data(e.Salt), data(e.Cover)
		return e
	}
	throughParts := func(list [][]byte) [][]byte {
		list = parts(list)
		for i, part := range list {
			list[i] = data(part)
		}
		return list
	}
	a.entry, a.list = within(a.entry), entries(a.list)
	for i, e := range a.list {
		a.list[i] = within(e)
	}
	a.path.leaf, a.path.root, a.path.path = data(a.path.leaf), data(a.path.root), throughParts(a.path.path)
	a.bridge.oldRoot, a.bridge.root, a.bridge.bridge = data(a.bridge.oldRoot), data(a.bridge.root), throughParts(a.bridge.bridge)
	a.head.Root = data(a.head.Root)
	return a
}

func (a logArguments) roomy() logArguments {
	return a.everyLogList(
		func(list []byte) []byte { return withRoom(list, 9) },
		func(list [][]byte) [][]byte { return withRoom(list, []byte("behind")) },
		func(list []impl.LogEntry) []impl.LogEntry { return withRoom(list, impl.LogEntry{Who: "behind"}) },
	)
}

func (a logArguments) opened() logArguments {
	return a.everyLogList(opened[byte], opened[[]byte], opened[impl.LogEntry])
}

func scribbleParts(list [][]byte) {
	for _, part := range list {
		scribble(part, 7)
	}
	scribble(list, []byte("scribbled"))
}

func (a logArguments) scribbleOver() {
	for _, e := range append(slices.Clone(a.list), a.entry) {
		scribble(e.Salt, 7)
		scribble(e.Cover, 7)
	}
	scribble(a.list, impl.LogEntry{Who: "scribbled"})
	for _, data := range [][]byte{a.path.leaf, a.path.root, a.bridge.oldRoot, a.bridge.root, a.head.Root} {
		scribble(data, 7)
	}
	scribbleParts(a.path.path)
	scribbleParts(a.bridge.bridge)
}

// logAnswers are all that the functions of the chapter answer.
type logAnswers struct {
	holds    [4]bool
	sums     [3][]byte
	redacted impl.LogEntry
	path     [][]byte
	bridge   [][]byte
	head     impl.LogHead
}

func (a logArguments) ask() logAnswers {
	return logAnswers{
		holds:    [4]bool{impl.GoodLogEntry(a.entry), a.path.check(), a.bridge.check(), impl.CheckHead(a.public, a.head)},
		sums:     [3][]byte{impl.CoverOf(a.entry), impl.LeafOf(a.entry), impl.RootOf(a.list)},
		redacted: impl.Redact(a.entry),
		path:     impl.PathOf(a.list, a.at),
		bridge:   impl.BridgeOf(a.list, a.old),
		head:     impl.SignHead(a.secret, a.list),
	}
}

// told is all of the answers as a text, in memory of its own.
func (r logAnswers) told() string {
	return shown(r)
}

func (r logAnswers) scribbleOver() {
	for _, data := range append(slices.Clone(r.sums[:]), r.redacted.Salt, r.redacted.Cover, r.head.Root) {
		scribble(data, 9)
	}
	scribbleParts(r.path)
	scribbleParts(r.bridge)
}

func manyLogArguments() []logArguments {
	from := drawn()
	all := []logArguments{plainLogArguments(), {}}
	add := func(change func(a *logArguments)) {
		a := plainLogArguments()
		change(&a)
		all = append(all, a)
	}
	for many := 1; many <= 20; many++ {
		for at := range many {
			all = append(all, logArgumentsOf(logged(many), at, at+1))
		}
	}
	for _, many := range []int{127, 128, 129, 199, 200} {
		all = append(all, logArgumentsOf(logged(many), many-1, many), logArgumentsOf(opens(many), many/2, many/2), logArgumentsOf(logged(many), 1, many-1))
	}
	for i, e := range append(goodLogEntries(), badLogEntries()...) {
		add(func(a *logArguments) { a.entry, a.list[i%7] = e, e })
	}
	for i, other := range wrongPaths(plainLogArguments().path) {
		if i%5 == 0 {
			add(func(a *logArguments) { a.path = other })
		}
	}
	for i, other := range wrongBridges(plainLogArguments().bridge) {
		if i%5 == 0 {
			add(func(a *logArguments) { a.bridge = other })
		}
	}
	for i, other := range wrongHeads(77, plainLogArguments().head) {
		if i%5 == 0 {
			add(func(a *logArguments) { a.head = other })
		}
	}
	for _, num := range []int{math.MinInt, -1, 0, 7, 8, 200, 201, math.MaxInt} {
		add(func(a *logArguments) { a.at, a.old, a.secret, a.public = num, num, num, num })
	}
	for range 200 {
		list := drawnLogged(from, 1+from.Intn(9))
		all = append(all, logArgumentsOf(list, from.Intn(len(list)), 1+from.Intn(len(list))))
	}
	turned := plainLogArguments()
	slices.Reverse(turned.list)
	slices.Reverse(turned.path.path)
	slices.Reverse(turned.bridge.bridge)
	return append(all, turned)
}

func TestArgumentsOfLogsStayAsTheyWere(t *testing.T) {
	for i, plain := range manyLogArguments() {
		if len(plain.list) < 20 {
			plain.askWords(t, "arguments "+strconv.Itoa(i))
		}
		a := plain.roomy()
		before := a.opened()
		first := a.ask()
		if !reflect.DeepEqual(a.opened(), before) {
			t.Errorf("arguments %d changed", i)
		}
		first.scribbleOver()
		if !reflect.DeepEqual(a.opened(), before) {
			t.Errorf("arguments %d changed with their answers", i)
		}
	}
}

func TestAnswersOfLogsShareNothing(t *testing.T) {
	lists := 0
	for i, plain := range manyLogArguments() {
		a := plain.roomy()
		first, second := a.ask(), a.ask()
		// An array is none of the lists that are looked for.
		spans := slices.Concat(spansOf(reflect.ValueOf(first), "first"), spansOf(reflect.ValueOf(first.sums[:]), "first sums"), spansOf(reflect.ValueOf(second), "second"), spansOf(reflect.ValueOf(second.sums[:]), "second sums"))
		own := spansOf(reflect.ValueOf(a), "argument")
		lists += len(spans)
		if found := shared(spans); found != "" {
			t.Errorf("answers %d share memory: %s", i, found)
		}
		for _, s := range spans {
			for _, o := range own {
				if s.from < o.to && o.from < s.to {
					t.Errorf("answers %d share memory: %s and %s", i, s.what, o.what)
				}
			}
		}
		kept := second.told()
		first.scribbleOver()
		a.scribbleOver()
		if second.told() != kept {
			t.Errorf("answers %d changed with their arguments, or with other answers", i)
		}
	}
	if lists < 9000 {
		t.Errorf("only %d lists", lists)
	}
}

// Each part of one path and of one bridge is written over, and beyond its end, while the others are looked at.
func TestPartsOfOnePathShareNothing(t *testing.T) {
	list := logged(13)
	for num := range 14 {
		for _, tell := range []func() [][]byte{
			func() [][]byte { return impl.PathOf(list, num) },
			func() [][]byte { return impl.BridgeOf(list, num) },
		} {
			want, told := tell(), tell()
			for i := range told {
				scribble(told[i], 7)
				told[i] = bytes.Clone(want[i])
				if hexes(told...) != hexes(want...) {
					t.Errorf("%d: part %d is that of another", num, i)
				}
			}
		}
	}
	for _, e := range bothEntries() {
		kept := shown(e)
		for _, data := range [][]byte{impl.Redact(e).Cover, impl.CoverOf(e), impl.LeafOf(e)} {
			scribble(data, 7)
		}
		if shown(e) != kept {
			t.Errorf("an entry changed with what was told of it: %s", shown(e))
		}
	}
}

// askHandedOut writes over what was told, and holds what is told then, and the arguments, against what they were.
func askHandedOut[A any](t *testing.T, what string, arguments func() string, tell func() A, over func(told A)) {
	t.Helper()
	before, first := arguments(), shown(tell())
	other := tell()
	over(tell())
	if arguments() != before {
		t.Errorf("%s: arguments changed with the answer", what)
	}
	if shown(other) != first || shown(tell()) != first {
		t.Errorf("%s: an answer changed with another one", what)
	}
}

func TestWhatIsHandedOutIsNewMemory(t *testing.T) {
	many := 0
	for _, a := range manyReplicaArguments() {
		askHandedOut(t, "Receive", func() string { return shown(a) }, func() []impl.DirChange { return impl.Receive(a.log, a.more) }, func(told []impl.DirChange) {
			many += len(told)
			scribble(told, dropped(-9, -9, -9))
		})
	}
	for _, a := range manyStoreArguments() {
		for rev := range len(a.batches) + 1 {
			askHandedOut(t, "TuplesAt", func() string { return shown(a) }, func() []impl.Tuple { return impl.TuplesAt(a.schema, a.batches, rev) }, func(told []impl.Tuple) {
				many += len(told)
				scribbleTuples(told)
			})
		}
	}
	for _, a := range manyPartArguments() {
		askHandedOut(t, "Residual", func() string { return shown(a) }, func() []impl.Policy { return impl.Residual(a.things, a.request, a.policies, a.unknown) }, func(told []impl.Policy) {
			many += len(told)
			decideArguments{policies: told}.scribbleOver()
		})
		askHandedOut(t, "SliceThings", func() string { return shown(a) }, func() []impl.Thing { return impl.SliceThings(a.things, a.request, a.policies) }, func(told []impl.Thing) {
			many += len(told)
			decideArguments{things: told}.scribbleOver()
		})
	}
	for _, a := range manyLogArguments() {
		askHandedOut(t, "PathOf", func() string { return shown(a) }, func() [][]byte { return impl.PathOf(a.list, a.at) }, func(told [][]byte) {
			many += len(told)
			scribbleParts(told)
		})
	}
	if many < 10000 {
		t.Errorf("only %d were written over", many)
	}
}

func TestAnEmptyListOfLogsIsTheNilList(t *testing.T) {
	room := logged(3)
	want := impl.SignHead(9, nil)
	for _, list := range [][]impl.LogEntry{nil, {}, room[:0]} {
		if !bytes.Equal(impl.RootOf(list), impl.Digest(nil)) || impl.PathOf(list, 0) != nil || impl.BridgeOf(list, 0) != nil || impl.BridgeOf(list, 1) != nil {
			t.Errorf("%#v: want no entries", list)
		}
		if got := impl.SignHead(9, list); !reflect.DeepEqual(got, want) || got.Size != 0 || !impl.CheckHead(impl.PublicOf(9), got) {
			t.Errorf("%#v: got %+v", list, got)
		}
	}
	bytesOfNone := [][]byte{nil, {}, make([]byte, 3)[:0]}
	for _, none := range bytesOfNone {
		for _, also := range bytesOfNone {
			open := impl.LogEntry{Time: 5, Who: "ann", What: "view", Salt: none, Cover: also}
			if !impl.GoodLogEntry(open) || !bytes.Equal(impl.CoverOf(open), impl.Mac(nil, []byte("view"))) {
				t.Errorf("%#v: want it open", open)
			}
			redacted := impl.LogEntry{Time: 5, Who: "ann", Salt: none, Cover: impl.CoverOf(open)}
			if !impl.GoodLogEntry(redacted) || !bytes.Equal(impl.LeafOf(redacted), impl.LeafOf(open)) {
				t.Errorf("%#v: want it redacted", redacted)
			}
			for _, e := range []impl.LogEntry{open, redacted} {
				if got, want := impl.Redact(e), (impl.LogEntry{Time: 5, Who: "ann", Cover: impl.CoverOf(open)}); !reflect.DeepEqual(got, want) {
					t.Errorf("Redact: got %#v, want %#v", got, want)
				}
			}
		}
	}
	leaf := impl.LeafOf(room[0])
	for _, none := range [][][]byte{nil, {}, make([][]byte, 3)[:0]} {
		if !impl.CheckPath(leaf, 0, 1, none, leaf) || !impl.CheckBridge(1, 1, leaf, leaf, none) {
			t.Errorf("%#v: want it to show the only one", none)
		}
	}
	if got := impl.PathOf(room[:1], 0); got != nil {
		t.Errorf("PathOf: got %#v", got)
	}
	if got := impl.BridgeOf(room, 3); got != nil {
		t.Errorf("BridgeOf: got %#v", got)
	}
}

func TestLogsAnswerTheSameAgain(t *testing.T) {
	for i, a := range manyLogArguments() {
		first := a.ask().told()
		for range 3 {
			if a.ask().told() != first {
				t.Errorf("answers %d are others when they are asked again", i)
			}
		}
	}
}

// Many ask at once, with the same arguments.
func TestLogsAtOnce(t *testing.T) {
	all := manyLogArguments()
	var want []string
	for _, a := range all {
		want = append(want, a.ask().told())
	}
	var asking sync.WaitGroup
	for worker := range 8 {
		asking.Add(1)
		go func() {
			defer asking.Done()
			for i := worker % 3; i < len(all); i += 3 {
				if got := all[i].ask().told(); got != want[i] {
					t.Errorf("answers %d are others when many ask", i)
				}
			}
		}()
	}
	asking.Wait()
}
