package tests

import (
	"math"
	"reflect"
	"slices"
	"testing"

	"loop.example/g00036/impl"
)

func oddLogs() [][]impl.DirChange {
	return append(badLogs(), goodLogs()...)
}

func oddVectors() [][]impl.Stamp {
	return append(badVectors(), goodVectors()...)
}

// isNone is what a log that is not good comes to, whatever is asked of it.
func isNone(log []impl.DirChange, who int) bool {
	left, right := impl.Sync(log, nil)
	return len(impl.Receive(log, nil))+len(impl.Receive(log, oneOfEach()))+len(impl.VectorOf(log))+len(impl.Missing(log, nil)) == 0 &&
		len(left)+len(right)+len(impl.NodesOf(log))+len(impl.EntriesOf(log)) == 0 && impl.NextStamp(log, who) == impl.Stamp{}
}

func TestReplicasAnswerAtAnyNumbers(t *testing.T) {
	nums := append(oddInts(), 2, 3, 4, 5, 99, 100, 1000, 1001, 1000000000, 1000000001)
	for _, c := range oneOfEach() {
		for _, num := range nums {
			for _, field := range []*int{&c.Stamp.Time, &c.Stamp.Who, &c.Kind, &c.Uid, &c.Up} {
				kept := *field
				*field = num
				want := goodChangeByWords(c)
				if impl.GoodChange(c) != want || impl.GoodLog(logOf(c)) != want || (len(impl.Receive(nil, logOf(c))) == 1) != want {
					t.Errorf("%+v: want good %v", c, want)
				}
				if !want && !isNone(logOf(c), num) {
					t.Errorf("%+v is in no good log", c)
				}
				*field = kept
			}
			if got, want := impl.NextStamp(logOf(c), num), isBetween(num, 0, 99); (got != impl.Stamp{}) != want {
				t.Errorf("NextStamp for %d: got %v", num, got)
			}
			for _, other := range nums {
				impl.Missing(logOf(c), []impl.Stamp{stampOf(num, other), stampOf(other, num)})
			}
		}
	}
}

func TestReplicasAnswerAtAnyText(t *testing.T) {
	for _, text := range oddDirTexts() {
		for _, c := range oneOfEach() {
			for _, field := range []*string{&c.Part.Attr, &c.Part.Text, &c.Attr, &c.Text} {
				kept := *field
				*field = text
				want := goodChangeByWords(c)
				if impl.GoodChange(c) != want || !want && !isNone(logOf(c), 1) {
					t.Errorf("%.300q in %d: want good %v", text, c.Kind, want)
				}
				*field = kept
			}
		}
	}
}

func TestReplicasAnswerAtAnyLogs(t *testing.T) {
	logs, vectors := oddLogs(), oddVectors()
	for _, log := range logs {
		good := impl.GoodLog(log)
		if !good && !isNone(log, 1) {
			t.Errorf("no good log of %d changes has an answer", len(log))
		}
		for _, vector := range vectors {
			if got := impl.Missing(log, vector); !good && len(got) != 0 || len(got) > len(log) {
				t.Errorf("Missing by %v: got %+v", vector, got)
			}
		}
		for _, who := range []int{math.MinInt, -1, 0, 99, 100, math.MaxInt} {
			if got := impl.NextStamp(log, who); got != (impl.Stamp{}) && (!good || !isBetween(who, 0, 99)) {
				t.Errorf("NextStamp for %d: got %v", who, got)
			}
		}
	}
}

func TestSyncAnswersAtAnyLogs(t *testing.T) {
	logs := oddLogs()
	good := make([]bool, len(logs))
	for i, log := range logs {
		good[i] = impl.GoodLog(log)
	}
	for i, a := range logs {
		for j, b := range logs {
			left, right := impl.Sync(a, b)
			if !(good[i] && good[j]) && len(left)+len(right) != 0 {
				t.Fatalf("Sync of logs %d and %d, which are not good: got %+v, %+v", i, j, left, right)
			}
			if !impl.GoodLog(left) || !impl.GoodLog(right) {
				t.Fatalf("Sync of logs %d and %d: got no good logs", i, j)
			}
		}
	}
}

// replicaArguments are all that the functions of the chapter take, but for numbers.
type replicaArguments struct {
	log    []impl.DirChange
	more   []impl.DirChange
	vector []impl.Stamp
}

func (a replicaArguments) roomy() replicaArguments {
	return replicaArguments{withRoom(a.log, dropped(9, 9, 9)), withRoom(a.more, dropped(8, 8, 8)), withRoom(a.vector, stampOf(7, 7))}
}

func (a replicaArguments) opened() replicaArguments {
	return replicaArguments{opened(a.log), opened(a.more), opened(a.vector)}
}

func (a replicaArguments) scribbleOver() {
	scribble(a.log, dropped(-7, -7, -7))
	scribble(a.more, dropped(-7, -7, -7))
	scribble(a.vector, stampOf(-7, -7))
}

// replicaAnswers are all lists that the functions of the chapter answer.
type replicaAnswers struct {
	logs    [][]impl.DirChange
	vector  []impl.Stamp
	nodes   []impl.DirNode
	entries []impl.Entry
}

func (a replicaArguments) ask() replicaAnswers {
	impl.GoodLog(a.log)
	impl.NextStamp(a.log, 1)
	left, right := impl.Sync(a.log, a.more)
	none, same := impl.Sync(a.log, a.log)
	return replicaAnswers{
		logs:    [][]impl.DirChange{impl.Receive(a.log, a.more), impl.Receive(a.log, nil), impl.Missing(a.log, a.vector), impl.Missing(a.log, nil), left, right, none, same},
		vector:  impl.VectorOf(a.log),
		nodes:   impl.NodesOf(a.log),
		entries: impl.EntriesOf(a.log),
	}
}

// copied is the same answers in memory of their own.
func (r replicaAnswers) copied() replicaAnswers {
	out := replicaAnswers{vector: slices.Clone(r.vector), nodes: slices.Clone(r.nodes), entries: slices.Clone(r.entries)}
	for _, log := range r.logs {
		out.logs = append(out.logs, slices.Clone(log))
	}
	for i, n := range out.nodes {
		out.nodes[i].Values = slices.Clone(n.Values)
	}
	for i, e := range out.entries {
		e.Name, e.Attrs = slices.Clone(e.Name), slices.Clone(e.Attrs)
		for j, a := range e.Attrs {
			e.Attrs[j].Values = slices.Clone(a.Values)
		}
		out.entries[i] = e
	}
	return out
}

func (r replicaAnswers) scribbleOver() {
	for _, log := range r.logs {
		scribble(log, dropped(-9, -9, -9))
	}
	scribble(r.vector, stampOf(-9, -9))
	for _, n := range r.nodes {
		scribble(n.Values, impl.DirValue{Attr: "scribbled"})
	}
	scribble(r.nodes, impl.DirNode{Uid: -9})
	for _, e := range r.entries {
		for _, a := range e.Attrs {
			scribble(a.Values, "scribbled")
		}
		scribble(e.Attrs, impl.Attr{})
		scribble(e.Name, impl.Part{})
	}
	scribble(r.entries, impl.Entry{})
}

func manyReplicaArguments() []replicaArguments {
	vector := []impl.Stamp{stampOf(3, 0), stampOf(1, 1)}
	all := []replicaArguments{{staffLog(), oneOfEach(), vector}, {chainOf(20), staffLog(), vector}}
	for _, log := range oddLogs() {
		all = append(all, replicaArguments{log, staffLog(), vector}, replicaArguments{staffLog(), log, vector})
	}
	for _, vector := range oddVectors() {
		all = append(all, replicaArguments{staffLog(), oneOfEach(), vector})
	}
	turned := oneOfEach()
	slices.Reverse(turned)
	return append(all, replicaArguments{staffLog(), turned, vector})
}

func TestArgumentsOfReplicasStayAsTheyWere(t *testing.T) {
	for i, told := range manyReplicaArguments() {
		a := told.roomy()
		before := a.opened()
		first := a.ask()
		if !reflect.DeepEqual(a.opened(), before) {
			t.Errorf("arguments %d changed", i)
		}
		first.scribbleOver()
		if !reflect.DeepEqual(a.opened(), before) {
			t.Errorf("arguments %d changed with their answers", i)
		}
	}
}

func TestAnswersOfReplicasShareNothing(t *testing.T) {
	for i, told := range manyReplicaArguments() {
		a := told.roomy()
		kept := a.ask().copied()
		first, second := a.ask(), a.ask()
		first.scribbleOver()
		a.scribbleOver()
		if !reflect.DeepEqual(second.copied(), kept) {
			t.Errorf("answers %d changed with their arguments, or with other answers", i)
		}
	}
}

// Each list of an answer is written over, and beyond its end, while the others are looked at.
func TestListsOfOneAnswerShareNothing(t *testing.T) {
	for _, log := range [][]impl.DirChange{staffLog(), chainOf(20), shownBy(placed(0, 0, 1, 0, "a"), placed(0, 0, 2, 1, "a"), placed(0, 0, 3, 2, "a"))} {
		nodes := impl.NodesOf(log)
		for i := range nodes {
			scribble(nodes[i].Values, impl.DirValue{Attr: "scribbled"})
			nodes[i].Values = impl.NodesOf(log)[i].Values
			if !sameNodes(nodes, impl.NodesOf(log)) {
				t.Fatalf("values of node %d are those of another", i)
			}
		}
		entries := impl.EntriesOf(log)
		for i := range entries {
			for _, a := range entries[i].Attrs {
				scribble(a.Values, "scribbled")
			}
			scribble(entries[i].Attrs, impl.Attr{})
			scribble(entries[i].Name, impl.Part{})
			entries[i] = impl.EntriesOf(log)[i]
			if !sameEntries(entries, impl.EntriesOf(log)) {
				t.Fatalf("lists of entry %d are those of another", i)
			}
		}
		left, right := impl.Sync(log, log)
		scribble(left, dropped(-9, -9, -9))
		if !slices.Equal(right, log) {
			t.Fatalf("the logs that Sync answers are one")
		}
	}
}

// The values of one entry's attributes lie apart as well.
func TestValuesOfOneEntryShareNothing(t *testing.T) {
	log := manyPuts(20, func(i int) (string, string) { return countedNames(5)[i%5], countedTexts(20)[i] })
	want := impl.EntriesOf(log)
	for i := range want[0].Attrs {
		got := impl.EntriesOf(log)
		scribble(got[0].Attrs[i].Values, "scribbled")
		got[0].Attrs[i].Values = want[0].Attrs[i].Values
		if !sameEntries(got, want) {
			t.Fatalf("values of attribute %d are those of another", i)
		}
	}
}

func TestAnEmptyListOfReplicasIsTheNilList(t *testing.T) {
	for _, log := range goodLogs() {
		if !reflect.DeepEqual(replicaArguments{log, logOf(), []impl.Stamp{}}.ask().copied(), replicaArguments{log, nil, nil}.ask().copied()) {
			t.Errorf("%+v: an empty list counts otherwise than none", log)
		}
	}
}
