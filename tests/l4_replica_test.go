package tests

import (
	"math"
	"math/rand"
	"slices"
	"strconv"
	"strings"
	"testing"

	"loop.example/g00036/impl"
)

func TestConstantsOfReplicas(t *testing.T) {
	got := []int{impl.MaxLog, impl.MaxUid, impl.ChangePlace, impl.ChangePut, impl.ChangeTake, impl.ChangeDrop}
	if want := []int{200, 1000, 1, 2, 3, 4}; !slices.Equal(got, want) {
		t.Errorf("constants: got %v, want %v", got, want)
	}
}

func TestGoodChange(t *testing.T) {
	for _, c := range goodChanges() {
		if !impl.GoodChange(c) || !goodChangeByWords(c) {
			t.Errorf("GoodChange(%+v): want true", c)
		}
	}
	for _, c := range badChanges() {
		if impl.GoodChange(c) || goodChangeByWords(c) {
			t.Errorf("GoodChange(%+v): want false", c)
		}
	}
}

func TestChangesWithEachByte(t *testing.T) {
	for b := range 256 {
		s := string([]byte{byte(b)})
		printed := isBetween(b, 32, 126)
		for _, text := range []string{s, "x" + s, s + "x", "x" + s + "x"} {
			if impl.GoodChange(placed(1, 0, 1, 0, text)) != (printed && s != "~") {
				t.Errorf("a Part's Text with byte %d", b)
			}
			if impl.GoodChange(put(1, 0, 1, "a", text)) != printed || impl.GoodChange(taken(1, 0, 1, "a", text)) != printed {
				t.Errorf("a value's Text with byte %d", b)
			}
			c := placed(1, 0, 1, 0, "a")
			c.Part.Attr = text
			if good := impl.GoodName(text); impl.GoodChange(c) != good || impl.GoodChange(put(1, 0, 1, text, "a")) != good || impl.GoodChange(taken(1, 0, 1, text, "a")) != good {
				t.Errorf("an Attr with byte %d", b)
			}
		}
	}
}

// A change of one kind with a field of another is good where that is its zero alone.
func TestFieldsThatAKindDoesNotHave(t *testing.T) {
	for kind := -1; kind <= 6; kind++ {
		for bits := range 32 {
			c := impl.DirChange{Stamp: stampOf(1, 0), Kind: kind, Uid: 1, Up: bits & 1}
			for i, field := range []*string{&c.Part.Attr, &c.Part.Text, &c.Attr, &c.Text} {
				if bits>>(i+1)&1 == 1 {
					*field = "a"
				}
			}
			if got := impl.GoodChange(c); got != goodChangeByWords(c) {
				t.Errorf("GoodChange(%+v): got %v", c, got)
			}
		}
	}
}

func TestGoodLog(t *testing.T) {
	for _, log := range goodLogs() {
		if !impl.GoodLog(log) || !goodLogByWords(log) {
			t.Errorf("GoodLog(%+v): want true", log)
		}
	}
	for _, log := range badLogs() {
		if impl.GoodLog(log) || goodLogByWords(log) {
			t.Errorf("GoodLog of %d changes, %+v: want false", len(log), log[:min(3, len(log))])
		}
	}
}

func TestStampsGoByTimeThenByWho(t *testing.T) {
	var stamps []impl.Stamp
	for _, time := range []int{1, 2, 3, 1000000000} {
		for _, who := range []int{0, 1, 2, 99} {
			stamps = append(stamps, stampOf(time, who))
		}
	}
	for i, a := range stamps {
		for j, b := range stamps {
			log := logOf(dropped(a.Time, a.Who, 1), dropped(b.Time, b.Who, 2))
			if impl.GoodLog(log) != (i < j) {
				t.Errorf("a log of %v, %v: want %v", a, b, i < j)
			}
			want := slices.Clone(log)
			if i > j {
				slices.Reverse(want)
			}
			if i == j {
				want = want[:1]
			}
			if got := impl.Receive(nil, log); !slices.Equal(got, want) {
				t.Errorf("Receive of %v, %v: got %+v", a, b, got)
			}
		}
	}
}

func TestReceive(t *testing.T) {
	a, b, c := placed(1, 1, 1, 0, "a"), placed(2, 0, 1, 0, "b"), placed(2, 1, 1, 0, "c")
	other := put(2, 0, 9, "x", "y")
	for _, told := range []struct{ log, more, want []impl.DirChange }{
		{nil, nil, nil},
		{logOf(), logOf(), nil},
		{nil, logOf(a), logOf(a)},
		{logOf(a), nil, logOf(a)},
		{logOf(a), logOf(), logOf(a)},
		{nil, logOf(c, b, a), logOf(a, b, c)},
		{logOf(b), logOf(a), logOf(a, b)},
		{logOf(b), logOf(c), logOf(b, c)},
		{logOf(a, c), logOf(b), logOf(a, b, c)},
		{logOf(a), logOf(a), logOf(a)},
		{nil, logOf(a, a), logOf(a)},
		{logOf(a, b, c), logOf(c, a, b, b, a), logOf(a, b, c)},
		{logOf(a, b), logOf(other), logOf(a, b)},
		{logOf(a, other), logOf(b), logOf(a, other)},
		{nil, logOf(b, other), logOf(b)},
		{nil, logOf(other, b), logOf(other)},
		{logOf(a), logOf(c, other, b, other), logOf(a, other, c)},
	} {
		if got := impl.Receive(told.log, told.more); !slices.Equal(got, told.want) {
			t.Errorf("Receive(%+v, %+v): got %+v, want %+v", told.log, told.more, got, told.want)
		}
	}
}

func TestReceiveAtItsLimits(t *testing.T) {
	full := countedDrops(1, impl.MaxLog)
	same := slices.Repeat(full, 5)
	for _, told := range []struct {
		name            string
		log, more, want []impl.DirChange
	}{
		{"a full log", full, nil, full},
		{"a full log again", full, full, full},
		{"a full log at once", nil, full, full},
		{"one less and one", full[:199], full[199:], full},
		{"one and the others", full[100:101], full, full},
		{"one more than may be", full, logOf(dropped(201, 7, 1)), nil},
		{"one more, ahead of all", countedDrops(2, impl.MaxLog), logOf(dropped(1, 7, 1)), nil},
		{"one more at once", nil, countedDrops(1, impl.MaxLog+1), nil},
		{"a full log and another change of a stamp", full, logOf(put(200, 7, 1, "a", "b")), full},
		{"1000 that came already", full, same, full},
		{"1000 that come often", nil, same, full},
		{"1000 of one", nil, slices.Repeat(full[:1], 1000), full[:1]},
		{"1001 that came already", full, append(same, full[0]), nil},
		{"1001 of one", nil, slices.Repeat(full[:1], 1001), nil},
		{"1000 others", nil, countedDrops(1, 1000), nil},
		{"a log of 201", countedDrops(1, impl.MaxLog+1), nil, nil},
	} {
		if got := impl.Receive(told.log, told.more); !slices.Equal(got, told.want) {
			t.Errorf("%s: got %d changes, want %d", told.name, len(got), len(told.want))
		}
	}
}

func TestReceiveTakesNoOthers(t *testing.T) {
	for _, log := range badLogs() {
		if got := impl.Receive(log, nil); len(got) != 0 {
			t.Errorf("Receive at no good log: got %+v", got)
		}
		if got := impl.Receive(log, oneOfEach()); len(got) != 0 {
			t.Errorf("Receive at no good log: got %+v", got)
		}
	}
	for _, c := range badChanges() {
		for _, more := range [][]impl.DirChange{logOf(c), append(oneOfEach(), c), append(logOf(c), oneOfEach()...)} {
			if got := impl.Receive(staffLog(), more); len(got) != 0 {
				t.Errorf("Receive of %+v: got %+v", c, got)
			}
		}
	}
	for _, c := range spoiled(oneOfEach(), func(c *impl.DirChange) { c.Uid = 1001 }) {
		if got := impl.Receive(oneOfEach(), logOf(c)); len(got) != 0 {
			t.Errorf("Receive of no good change with a stamp that is there: got %+v", got)
		}
	}
}

func TestReceiveByItsWords(t *testing.T) {
	from := drawn()
	for range 2000 {
		log := drawnChanges(from, from.Intn(12))
		var more []impl.DirChange
		for range from.Intn(12) {
			c := drawnChange(from)
			if from.Intn(2) == 0 && len(log) > 0 {
				c.Stamp = oneOf(from, log).Stamp
			}
			more = append(more, c)
		}
		if got, want := impl.Receive(log, more), receiveByWords(log, more); !slices.Equal(got, want) {
			t.Fatalf("Receive(%+v, %+v): got %+v, want %+v", log, more, got, want)
		}
	}
}

func TestVectorOf(t *testing.T) {
	for _, told := range []struct {
		log  []impl.DirChange
		want []impl.Stamp
	}{
		{nil, nil},
		{logOf(dropped(1, 0, 1)), []impl.Stamp{stampOf(1, 0)}},
		{logOf(dropped(1000000000, 99, 1)), []impl.Stamp{stampOf(1000000000, 99)}},
		{oneOfEach(), []impl.Stamp{stampOf(11, 0), stampOf(10, 1), stampOf(10, 2), stampOf(12, 5)}},
		{logOf(dropped(1, 9, 1), dropped(2, 3, 1), dropped(3, 9, 1), dropped(4, 3, 1)), []impl.Stamp{stampOf(4, 3), stampOf(3, 9)}},
		{countedDrops(5, 200), []impl.Stamp{stampOf(204, 7)}},
	} {
		if got := impl.VectorOf(told.log); !slices.Equal(got, told.want) {
			t.Errorf("VectorOf(%+v): got %v, want %v", told.log, got, told.want)
		}
	}
	for _, log := range goodLogs() {
		if got, want := impl.VectorOf(log), vectorByWords(log); !slices.Equal(got, want) {
			t.Errorf("VectorOf(%+v): got %v, want %v", log, got, want)
		}
	}
	for _, log := range badLogs() {
		if got := impl.VectorOf(log); len(got) != 0 {
			t.Errorf("VectorOf of no good log: got %v", got)
		}
	}
}

func TestMissing(t *testing.T) {
	log := logOf(dropped(1, 0, 1), dropped(2, 5, 2), dropped(3, 0, 3), dropped(4, 5, 4), dropped(4, 9, 5))
	for _, told := range []struct {
		vector []impl.Stamp
		want   []impl.DirChange
	}{
		{nil, log},
		{[]impl.Stamp{}, log},
		{impl.VectorOf(log), nil},
		{[]impl.Stamp{stampOf(0, 0)}, log},
		{[]impl.Stamp{stampOf(1, 0)}, log[1:]},
		{[]impl.Stamp{stampOf(2, 0)}, log[1:]},
		{[]impl.Stamp{stampOf(3, 0)}, logOf(log[1], log[3], log[4])},
		{[]impl.Stamp{stampOf(4, 5)}, logOf(log[0], log[2], log[4])},
		{[]impl.Stamp{stampOf(3, 5), stampOf(3, 9)}, logOf(log[0], log[2], log[3], log[4])},
		{[]impl.Stamp{stampOf(100, 6)}, log},
		{[]impl.Stamp{stampOf(100, -1), stampOf(100, 100)}, log},
		{[]impl.Stamp{stampOf(-1, 0), stampOf(math.MinInt, 5)}, log},
		{[]impl.Stamp{stampOf(math.MaxInt, 0), stampOf(math.MaxInt, 5)}, log[4:]},
		{countedVector(0, 100, 3), log[3:]},
		{countedVector(-91, 101, 3), nil},
		{countedVector(0, 101, 0), nil},
		{[]impl.Stamp{stampOf(0, 5), stampOf(0, 5)}, nil},
		{[]impl.Stamp{stampOf(0, 5), stampOf(0, 4)}, nil},
	} {
		if got := impl.Missing(log, told.vector); !slices.Equal(got, told.want) {
			t.Errorf("Missing by %v: got %+v, want %+v", told.vector, got, told.want)
		}
	}
}

func TestMissingOfOthers(t *testing.T) {
	for _, log := range goodLogs() {
		for _, vector := range goodVectors() {
			if got, want := impl.Missing(log, vector), missingByWords(log, vector); !slices.Equal(got, want) {
				t.Errorf("Missing(%+v, %v): got %+v, want %+v", log, vector, got, want)
			}
		}
		for _, vector := range badVectors() {
			if got := impl.Missing(log, vector); len(got) != 0 {
				t.Errorf("Missing by the wrong vector %v: got %+v", vector, got)
			}
		}
	}
	for _, log := range badLogs() {
		if got := impl.Missing(log, nil); len(got) != 0 {
			t.Errorf("Missing of no good log: got %+v", got)
		}
	}
}

func TestMissingByItsWords(t *testing.T) {
	from := drawn()
	for range 2000 {
		log := drawnChanges(from, from.Intn(20))
		vector := vectorByWords(drawnChanges(from, from.Intn(6)))
		if got, want := impl.Missing(log, vector), missingByWords(log, vector); !slices.Equal(got, want) {
			t.Fatalf("Missing(%+v, %v): got %+v, want %+v", log, vector, got, want)
		}
		if got, want := impl.VectorOf(log), vectorByWords(log); !slices.Equal(got, want) {
			t.Fatalf("VectorOf(%+v): got %v, want %v", log, got, want)
		}
	}
}

func TestSync(t *testing.T) {
	a, b, c, d := dropped(1, 0, 1), dropped(2, 0, 2), dropped(3, 1, 3), dropped(4, 1, 4)
	other := put(2, 0, 9, "x", "y")
	for _, told := range []struct{ left, right, wantLeft, wantRight []impl.DirChange }{
		{nil, nil, nil, nil},
		{logOf(a), nil, logOf(a), logOf(a)},
		{nil, logOf(c, d), logOf(c, d), logOf(c, d)},
		{logOf(a, b), logOf(a, c), logOf(a, b, c), logOf(a, b, c)},
		{logOf(a), logOf(a, b, c, d), logOf(a, b, c, d), logOf(a, b, c, d)},
		{logOf(a, b, c, d), logOf(a, b, c, d), logOf(a, b, c, d), logOf(a, b, c, d)},
		{logOf(b), logOf(a), logOf(b), logOf(a, b)},
		{logOf(a, c), logOf(b, d), logOf(a, b, c, d), logOf(b, d)},
		{logOf(b), logOf(other), logOf(b), logOf(other)},
		{logOf(a, b), logOf(a, other, c), logOf(a, b, c), logOf(a, other, c)},
	} {
		left, right := impl.Sync(told.left, told.right)
		if !slices.Equal(left, told.wantLeft) || !slices.Equal(right, told.wantRight) {
			t.Errorf("Sync(%+v, %+v): got %+v and %+v", told.left, told.right, left, right)
		}
		right, left = impl.Sync(told.right, told.left)
		if !slices.Equal(left, told.wantLeft) || !slices.Equal(right, told.wantRight) {
			t.Errorf("Sync(%+v, %+v): got %+v and %+v", told.right, told.left, right, left)
		}
	}
}

func TestSyncAtItsLimits(t *testing.T) {
	full := countedDrops(1, impl.MaxLog)
	behind := logOf(dropped(impl.MaxLog+1, 8, 1))
	for _, told := range []struct {
		name                string
		left, right         []impl.DirChange
		manyLeft, manyRight int
	}{
		{"a full one and none", full, nil, 200, 200},
		{"two full ones", full, full, 200, 200},
		{"two that make a full one", full[:199], behind, 200, 200},
		{"two that make one too many", full, behind, 0, 0},
		{"the first one too long, the other not", full, append(logOf(full[199]), behind...), 0, 0},
		{"one that is too long", append(slices.Clone(full), behind...), nil, 0, 0},
	} {
		left, right := impl.Sync(told.left, told.right)
		if len(left) != told.manyLeft || len(right) != told.manyRight {
			t.Errorf("%s: got %d and %d changes", told.name, len(left), len(right))
		}
		right, left = impl.Sync(told.right, told.left)
		if len(left) != told.manyLeft || len(right) != told.manyRight {
			t.Errorf("%s, turned: got %d and %d changes", told.name, len(left), len(right))
		}
	}
	for _, log := range badLogs() {
		for _, good := range [][]impl.DirChange{nil, oneOfEach(), full} {
			if left, right := impl.Sync(log, good); len(left)+len(right) != 0 {
				t.Errorf("Sync of no good log: got %+v and %+v", left, right)
			}
			if left, right := impl.Sync(good, log); len(left)+len(right) != 0 {
				t.Errorf("Sync with no good log: got %+v and %+v", left, right)
			}
		}
	}
}

func TestSyncByItsWords(t *testing.T) {
	from := drawn()
	for range 2000 {
		a, b := drawnChanges(from, from.Intn(14)), drawnChanges(from, from.Intn(14))
		left, right := impl.Sync(a, b)
		wantLeft, wantRight := syncByWords(a, b)
		if !slices.Equal(left, wantLeft) || !slices.Equal(right, wantRight) {
			t.Fatalf("Sync(%+v, %+v): got %+v and %+v, want %+v and %+v", a, b, left, right, wantLeft, wantRight)
		}
	}
}

// beginnings has, of each Who, a beginning of what it did.
func beginnings(from *rand.Rand, all []impl.DirChange) []impl.DirChange {
	ends := map[int]int{}
	for _, s := range vectorByWords(all) {
		ends[s.Who] = from.Intn(s.Time + 2)
	}
	return slices.DeleteFunc(slices.Clone(all), func(c impl.DirChange) bool { return c.Stamp.Time > ends[c.Stamp.Who] })
}

func TestAfterASyncBothHaveAll(t *testing.T) {
	from := drawn()
	for range 1000 {
		all := drawnChanges(from, 30)
		a, b := beginnings(from, all), beginnings(from, all)
		left, right := impl.Sync(a, b)
		if want := receiveByWords(a, b); !slices.Equal(left, want) || !slices.Equal(right, want) {
			t.Fatalf("Sync(%+v, %+v): got %+v and %+v", a, b, left, right)
		}
		if !sameEntries(impl.EntriesOf(left), impl.EntriesOf(right)) || !sameNodes(impl.NodesOf(left), impl.NodesOf(right)) {
			t.Fatalf("Sync(%+v, %+v): their directories differ", a, b)
		}
	}
}

// Replicas make changes of their own as NextStamp says, and meet by chance: at last each has what all did.
func TestReplicasThatMeetComeTogether(t *testing.T) {
	from := drawn()
	for range 60 {
		var all []impl.DirChange
		replicas := make([][]impl.DirChange, 4)
		for range 120 {
			who := from.Intn(4)
			if from.Intn(2) == 0 {
				c := drawnChange(from)
				c.Stamp = impl.NextStamp(replicas[who], who)
				replicas[who], all = impl.Receive(replicas[who], logOf(c)), append(all, c)
			} else if with := from.Intn(4); with != who {
				replicas[who], replicas[with] = impl.Sync(replicas[who], replicas[with])
			}
		}
		for _, pair := range [][2]int{{0, 1}, {2, 3}, {0, 2}, {1, 3}} {
			replicas[pair[0]], replicas[pair[1]] = impl.Sync(replicas[pair[0]], replicas[pair[1]])
		}
		want := receiveByWords(nil, all)
		for who, log := range replicas {
			if len(want) != len(all) || !slices.Equal(log, want) || !sameEntries(impl.EntriesOf(log), entriesByWords(want)) {
				t.Fatalf("replica %d: got %+v, want %+v", who, log, want)
			}
		}
	}
}

func TestNextStamp(t *testing.T) {
	for _, told := range []struct {
		log  []impl.DirChange
		who  int
		want impl.Stamp
	}{
		{nil, 0, stampOf(1, 0)},
		{logOf(), 99, stampOf(1, 99)},
		{logOf(dropped(1, 0, 1)), 0, stampOf(2, 0)},
		{oneOfEach(), 7, stampOf(13, 7)},
		{oneOfEach(), 5, stampOf(13, 5)},
		{logOf(dropped(7, 9, 1), dropped(8, 1, 1)), 9, stampOf(9, 9)},
		{countedDrops(1, impl.MaxLog), 3, stampOf(201, 3)},
		{countedDrops(1, impl.MaxLog+1), 3, impl.Stamp{}},
		{logOf(dropped(999999998, 0, 1)), 4, stampOf(999999999, 4)},
		{logOf(dropped(999999999, 0, 1)), 4, stampOf(1000000000, 4)},
		{logOf(dropped(1000000000, 0, 1)), 4, impl.Stamp{}},
		{logOf(dropped(1, 0, 1), dropped(1000000000, 99, 1)), 0, impl.Stamp{}},
		{nil, -1, impl.Stamp{}},
		{nil, 100, impl.Stamp{}},
		{oneOfEach(), -1, impl.Stamp{}},
		{oneOfEach(), 100, impl.Stamp{}},
		{oneOfEach(), math.MinInt, impl.Stamp{}},
		{oneOfEach(), math.MaxInt, impl.Stamp{}},
	} {
		if got := impl.NextStamp(told.log, told.who); got != told.want {
			t.Errorf("NextStamp(%+v, %d): got %v, want %v", told.log, told.who, got, told.want)
		}
	}
	for _, log := range badLogs() {
		if got := impl.NextStamp(log, 1); got != (impl.Stamp{}) {
			t.Errorf("NextStamp of no good log: got %v", got)
		}
	}
}

// nodesText tells nodes as `uid:up=text`, with `-` behind one that is gone, and its values.
func nodesText(nodes []impl.DirNode) string {
	var texts []string
	for _, n := range nodes {
		text := strconv.Itoa(n.Uid) + ":" + strconv.Itoa(n.Up) + "=" + n.Part.Text
		if n.Gone {
			text += "-"
		}
		for _, v := range n.Values {
			text += " " + v.Attr + "=" + v.Text
		}
		texts = append(texts, text)
	}
	return strings.Join(texts, "; ")
}

func TestNodesOf(t *testing.T) {
	p := func(uid int, up int, text string) impl.DirChange { return placed(0, 0, uid, up, text) }
	v := func(uid int, text string) impl.DirChange { return put(0, 0, uid, "x", text) }
	no := func(uid int, text string) impl.DirChange { return taken(0, 0, uid, "x", text) }
	gone := func(uid int) impl.DirChange { return dropped(0, 0, uid) }
	for _, told := range []struct {
		name string
		log  []impl.DirChange
		want string
	}{
		{"nothing", nil, ""},
		{"one", logOf(p(1, 0, "a")), "1:0=a"},
		{"the greatest Uid", logOf(p(1000, 0, "a"), p(1, 1000, "b")), "1:1000=b; 1000:0=a"},
		{"told by Uid, not by time", logOf(p(3, 0, "a"), p(1, 3, "b"), p(2, 0, "c")), "1:3=b; 2:0=c; 3:0=a"},
		{"an Up that was never placed", logOf(p(1, 2, "a")), ""},
		{"an Up that is placed only later", logOf(p(1, 2, "a"), p(2, 0, "b")), "2:0=b"},
		{"its own Up, never placed", logOf(p(1, 1, "a")), ""},
		{"its own Up, placed", logOf(p(1, 0, "a"), p(1, 1, "b")), "1:0=a"},
		{"an Up just below", logOf(p(1, 0, "a"), p(2, 1, "b"), p(1, 2, "c")), "1:0=a; 2:1=b"},
		{"an Up far below", logOf(p(1, 0, "a"), p(2, 1, "b"), p(3, 2, "c"), p(4, 3, "d"), p(1, 4, "e")), "1:0=a; 2:1=b; 3:2=c; 4:3=d"},
		{"an Up below, through one that is gone", logOf(p(1, 0, "a"), p(2, 1, "b"), p(3, 2, "c"), gone(2), p(1, 3, "d")), "1:0=a; 2:1=b-; 3:2=c"},
		{"an Up below, itself gone", logOf(p(1, 0, "a"), p(2, 1, "b"), gone(2), p(1, 2, "c")), "1:0=a; 2:1=b-"},
		{"an Up below one that is gone itself", logOf(p(1, 0, "a"), p(2, 1, "b"), gone(1), p(1, 2, "c")), "1:0=a-; 2:1=b"},
		{"an Up that was below and is no more", logOf(p(1, 0, "a"), p(2, 1, "b"), p(2, 0, "b"), p(1, 2, "c")), "1:2=c; 2:0=b"},
		{"an Up that is gone", logOf(p(1, 0, "a"), gone(1), p(2, 1, "b")), "1:0=a-; 2:1=b"},
		{"two that go below each other", logOf(p(1, 0, "a"), p(2, 0, "b"), p(1, 2, "c"), p(2, 1, "d")), "1:2=c; 2:0=b"},
		{"moved with all below", logOf(p(1, 0, "a"), p(2, 1, "b"), p(3, 0, "c"), p(1, 3, "d")), "1:3=d; 2:1=b; 3:0=c"},
		{"moved, beside its Up", logOf(p(1, 0, "a"), p(2, 1, "b"), p(3, 2, "c"), p(3, 1, "d")), "1:0=a; 2:1=b; 3:1=d"},
		{"to the root", logOf(p(1, 0, "a"), p(2, 1, "b"), p(2, 0, "c")), "1:0=a; 2:0=c"},
		{"gone", logOf(p(1, 0, "a"), gone(1)), "1:0=a-"},
		{"gone twice", logOf(p(1, 0, "a"), gone(1), gone(1)), "1:0=a-"},
		{"gone ahead of its place", logOf(gone(1), p(1, 0, "a")), "1:0=a"},
		{"gone and never placed", logOf(gone(1)), ""},
		{"placed anew behind a drop", logOf(p(1, 0, "a"), v(1, "v"), gone(1), p(1, 0, "b")), "1:0=b x=v"},
		{"placed anew in vain behind a drop", logOf(p(1, 0, "a"), gone(1), p(1, 1, "b"), p(1, 9, "c")), "1:0=a-"},
		{"one of two gone", logOf(p(1, 0, "a"), p(2, 0, "a"), gone(1)), "1:0=a-; 2:0=a"},
		{"a value", logOf(p(1, 0, "a"), v(1, "v")), "1:0=a x=v"},
		{"a value of none", logOf(v(1, "v")), ""},
		{"a value ahead of its place", logOf(v(1, "v"), p(1, 0, "a")), "1:0=a"},
		{"a value twice", logOf(p(1, 0, "a"), v(1, "v"), v(1, "v")), "1:0=a x=v"},
		{"a value twice, taken once", logOf(p(1, 0, "a"), v(1, "v"), v(1, "v"), no(1, "v")), "1:0=a"},
		{"a value taken and put", logOf(p(1, 0, "a"), no(1, "v"), v(1, "v")), "1:0=a x=v"},
		{"a value put, taken and put", logOf(p(1, 0, "a"), v(1, "v"), no(1, "v"), v(1, "v")), "1:0=a x=v"},
		{"another value taken", logOf(p(1, 0, "a"), v(1, "v"), no(1, "w"), taken(0, 0, 1, "y", "v"), no(2, "v")), "1:0=a x=v"},
		{"values in their order", logOf(p(1, 0, "a"), v(1, "b"), v(1, "a"), put(0, 0, 1, "a", "z"), put(0, 0, 1, "xx", "a"), v(1, "B"), v(1, "ab")), "1:0=a a=z x=B x=a x=ab x=b xx=a"},
		{"a value of one that is gone", logOf(p(1, 0, "a"), v(1, "u"), gone(1), v(1, "v"), no(1, "u")), "1:0=a- x=v"},
		{"values stay with a move", logOf(p(1, 0, "a"), p(2, 0, "b"), v(1, "v"), p(1, 2, "a")), "1:2=a x=v; 2:0=b"},
	} {
		log := timed(told.log...)
		if got := nodesText(impl.NodesOf(log)); got != told.want {
			t.Errorf("%s: got %q, want %q", told.name, got, told.want)
		}
		if got := nodesText(nodesByWords(log)); got != told.want {
			t.Errorf("%s, by the words: got %q, want %q", told.name, got, told.want)
		}
	}
}

// entriesText tells entries by their names, with `;` between.
func entriesText(entries []impl.Entry) string {
	var texts []string
	for _, e := range entries {
		texts = append(texts, impl.NameText(e.Name))
	}
	return strings.Join(texts, ";")
}

// shownBy is a log of the changes, and then a value for each of the Uids from 1 to 6.
func shownBy(list ...impl.DirChange) []impl.DirChange {
	for uid := 1; uid <= 6; uid++ {
		list = append(list, put(0, 0, uid, "x", "v"))
	}
	return timed(list...)
}

func TestEntriesOf(t *testing.T) {
	p := func(uid int, up int, text string) impl.DirChange { return placed(0, 0, uid, up, text) }
	gone := func(uid int) impl.DirChange { return dropped(0, 0, uid) }
	ou := p(2, 0, "a")
	ou.Part.Attr = "ou"
	for _, told := range []struct {
		name string
		log  []impl.DirChange
		want string
	}{
		{"nothing", nil, ""},
		{"one", logOf(p(1, 0, "a")), "cn=a"},
		{"told by Uid", logOf(p(3, 0, "c"), p(1, 3, "a"), p(2, 0, "b")), "cn=a,cn=c;cn=b;cn=c"},
		{"its own Part first", logOf(p(1, 0, "a"), p(2, 1, "b"), p(3, 2, "c")), "cn=a;cn=b,cn=a;cn=c,cn=b,cn=a"},
		{"two alike", logOf(p(1, 0, "a"), p(2, 0, "a")), "cn=a;cn=a~2"},
		{"two alike, the lesser Uid later", logOf(p(2, 0, "a"), p(1, 0, "a")), "cn=a;cn=a~2"},
		{"three alike", logOf(p(5, 0, "a"), p(3, 0, "a"), p(4, 0, "a")), "cn=a;cn=a~4;cn=a~5"},
		{"three alike and one gone", logOf(p(1, 0, "a"), p(2, 0, "a"), p(3, 0, "a"), gone(2)), "cn=a;cn=a~3"},
		{"three alike and the first gone", logOf(p(1, 0, "a"), p(2, 0, "a"), p(3, 0, "a"), gone(1)), "cn=a;cn=a~3"},
		{"three alike and the last gone", logOf(p(1, 0, "a"), p(2, 0, "a"), p(3, 0, "a"), gone(3)), "cn=a;cn=a~2"},
		{"two alike and both gone", logOf(p(1, 0, "a"), p(2, 0, "a"), gone(1), gone(2)), ""},
		{"one gone and back", logOf(p(1, 0, "a"), p(2, 0, "a"), gone(1), p(1, 0, "a")), "cn=a;cn=a~2"},
		{"two alike below another", logOf(p(1, 0, "a"), p(2, 1, "b"), p(3, 1, "b")), "cn=a;cn=b,cn=a;cn=b~3,cn=a"},
		{"two alike above others", logOf(p(1, 0, "a"), p(2, 0, "a"), p(3, 2, "b"), p(4, 1, "b")), "cn=a;cn=a~2;cn=b,cn=a~2;cn=b,cn=a"},
		{"two alike at two levels", logOf(p(1, 0, "a"), p(2, 0, "a"), p(3, 2, "b"), p(4, 2, "b"), p(5, 4, "c")), "cn=a;cn=a~2;cn=b,cn=a~2;cn=b~4,cn=a~2;cn=c,cn=b~4,cn=a~2"},
		{"two alike, one of them below the other", logOf(p(1, 0, "a"), p(2, 1, "a")), "cn=a;cn=a,cn=a"},
		{"two alike, one of them moved away", logOf(p(1, 0, "a"), p(2, 0, "a"), p(3, 0, "b"), p(2, 3, "a")), "cn=a;cn=a,cn=b;cn=b"},
		{"two alike, one of them renamed", logOf(p(1, 0, "a"), p(2, 0, "a"), p(1, 0, "b")), "cn=b;cn=a"},
		{"alike but for the Attr", logOf(p(1, 0, "a"), ou), "cn=a;ou=a"},
		{"alike but for capitals", logOf(p(1, 0, "a"), p(2, 0, "A")), "cn=a;cn=A"},
		{"gone", logOf(p(1, 0, "a"), gone(1)), ""},
		{"below one that is gone", logOf(p(1, 0, "a"), p(2, 1, "b"), p(3, 2, "c"), p(4, 0, "d"), gone(1)), "cn=d"},
		{"below one that came back", logOf(p(1, 0, "a"), p(2, 1, "b"), gone(1), p(1, 0, "c")), "cn=c;cn=b,cn=c"},
		{"gone between", logOf(p(1, 0, "a"), p(2, 1, "b"), p(3, 2, "c"), gone(2)), "cn=a"},
		{"two alike below one that is gone", logOf(p(1, 0, "a"), p(2, 1, "b"), p(3, 1, "b"), gone(1)), ""},
		{"two alike below two alike, one of which is gone", logOf(p(1, 0, "a"), p(2, 0, "a"), p(3, 1, "b"), p(4, 2, "b"), gone(1)), "cn=a;cn=b,cn=a"},
		{"a Part that needs a backslash", logOf(p(1, 0, ","), p(2, 0, ",")), "cn=\\,;cn=\\,~2"},
	} {
		log := shownBy(told.log...)
		if got := entriesText(impl.EntriesOf(log)); got != told.want {
			t.Errorf("%s: got %q, want %q", told.name, got, told.want)
		}
		if got := entriesText(entriesByWords(log)); got != told.want {
			t.Errorf("%s, by the words: got %q, want %q", told.name, got, told.want)
		}
	}
}

func TestAttrsOfEntries(t *testing.T) {
	log := timed(
		placed(0, 0, 1, 0, "a"), put(0, 0, 1, "b", "2"), put(0, 0, 1, "a", "9"), put(0, 0, 1, "b", "10"), put(0, 0, 1, "B", "x"), put(0, 0, 1, "b", "3"),
		taken(0, 0, 1, "b", "3"), put(0, 0, 1, "c", "4"), taken(0, 0, 1, "c", "4"), put(0, 0, 1, "b", "2"), placed(0, 0, 2, 1, "b"), placed(0, 0, 3, 2, "c"), put(0, 0, 3, "a", "9"),
	)
	want := []impl.Entry{entryOf(nameOf("cn", "a"), "B=x", "a=9", "b=10|2"), entryOf(nameOf("cn", "c", "cn", "b", "cn", "a"), "a=9")}
	if got := impl.EntriesOf(log); !sameEntries(got, want) {
		t.Errorf("EntriesOf: got %+v, want %+v", got, want)
	}
}

// chainOf places so many nodes, each under the one ahead of it, and gives each a value.
func chainOf(many int) []impl.DirChange {
	var list []impl.DirChange
	for i := range many {
		list = append(list, placed(0, 0, i+1, i, "a"), put(0, 0, i+1, "x", "v"))
	}
	return timed(list...)
}

func manyPuts(many int, value func(i int) (string, string)) []impl.DirChange {
	list := logOf(placed(0, 0, 1, 0, "a"))
	for i := range many {
		attr, text := value(i)
		list = append(list, put(0, 0, 1, attr, text))
	}
	return timed(list...)
}

func TestWhatIsNoGoodEntryIsNotTold(t *testing.T) {
	oneAttr := func(i int) (string, string) { return "x", countedTexts(200)[i] }
	manyAttrs := func(i int) (string, string) { return countedNames(200)[i], "v" }
	full := placed(0, 0, 1, 0, strings.Repeat("a", 50))
	full.Part.Attr = strings.Repeat("N", 30)
	clash := full
	clash.Uid = 1000
	for _, told := range []struct {
		name        string
		log         []impl.DirChange
		nodes, many int
	}{
		{"no attribute", timed(placed(0, 0, 1, 0, "a")), 1, 0},
		{"an attribute that was taken", timed(placed(0, 0, 1, 0, "a"), put(0, 0, 1, "x", "v"), taken(0, 0, 1, "x", "v")), 1, 0},
		{"no attribute above one that has some", timed(placed(0, 0, 1, 0, "a"), placed(0, 0, 2, 1, "b"), put(0, 0, 2, "x", "v")), 2, 1},
		{"8 parts", chainOf(8), 8, 8},
		{"9 parts", chainOf(9), 9, 8},
		{"100 parts", chainOf(100), 100, 8},
		{"30 values", manyPuts(30, oneAttr), 1, 1},
		{"31 values", manyPuts(31, oneAttr), 1, 0},
		{"199 values", manyPuts(199, oneAttr), 1, 0},
		{"30 attributes", manyPuts(30, manyAttrs), 1, 1},
		{"31 attributes", manyPuts(31, manyAttrs), 1, 0},
		{"the longest Parts, one with its Uid", timed(full, clash, put(0, 0, 1, "x", "v"), put(0, 0, 1000, "x", "v")), 2, 2},
	} {
		if got := impl.NodesOf(told.log); len(got) != told.nodes {
			t.Errorf("%s: got %d nodes, want %d", told.name, len(got), told.nodes)
		}
		if got := impl.EntriesOf(told.log); len(got) != told.many || !sameEntries(got, entriesByWords(told.log)) {
			t.Errorf("%s: got %d entries, want %d", told.name, len(got), told.many)
		}
	}
}

func TestDirectoriesOfNoGoodLogs(t *testing.T) {
	for _, log := range badLogs() {
		if nodes, entries := impl.NodesOf(log), impl.EntriesOf(log); len(nodes)+len(entries) != 0 {
			t.Errorf("no good log: got %+v, %+v", nodes, entries)
		}
	}
	for _, bad := range badChanges() {
		log := append(staffLog(), bad)
		if nodes, entries := impl.NodesOf(log), impl.EntriesOf(log); len(nodes)+len(entries) != 0 {
			t.Errorf("a log with %+v: got %+v, %+v", bad, nodes, entries)
		}
	}
}

// askDirectory holds a log's directory against the words.
func askDirectory(t *testing.T, log []impl.DirChange) {
	t.Helper()
	if got, want := impl.NodesOf(log), nodesByWords(log); !sameNodes(got, want) {
		t.Fatalf("NodesOf(%+v): got %q, want %q", log, nodesText(got), nodesText(want))
	}
	if got, want := impl.EntriesOf(log), entriesByWords(log); !sameEntries(got, want) {
		t.Fatalf("EntriesOf(%+v): got %q, want %q", log, entriesText(got), entriesText(want))
	}
}

// All logs of four changes that place or drop one of three nodes with the same Part.
func TestAllSmallDirectories(t *testing.T) {
	var steps []impl.DirChange
	for uid := 1; uid <= 3; uid++ {
		steps = append(steps, dropped(0, 0, uid))
		for up := 0; up <= 3; up++ {
			steps = append(steps, placed(0, 0, uid, up, "a"))
		}
	}
	var grow func(list []impl.DirChange)
	grow = func(list []impl.DirChange) {
		if len(list) == 4 {
			askDirectory(t, timed(append(list, put(0, 0, 1, "x", "v"), put(0, 0, 2, "x", "v"), put(0, 0, 3, "x", "v"))...))
			return
		}
		for _, c := range steps {
			grow(append(slices.Clip(list), c))
		}
	}
	grow(nil)
}

func TestDirectoriesByTheirWords(t *testing.T) {
	from := drawn()
	for range 3000 {
		askDirectory(t, drawnChanges(from, from.Intn(100)))
	}
	for _, log := range goodLogs() {
		askDirectory(t, log)
	}
}

// withoutLoop says whether going up from each node comes to the root.
func withoutLoop(nodes []impl.DirNode) bool {
	ups := map[int]int{}
	for _, n := range nodes {
		ups[n.Uid] = n.Up
	}
	for _, n := range nodes {
		uid := n.Uid
		for range nodes {
			uid = ups[uid]
		}
		if uid != 0 {
			return false
		}
	}
	return true
}

func TestNoNodeLiesBelowItself(t *testing.T) {
	from := drawn()
	for range 1500 {
		var list []impl.DirChange
		for range 1 + from.Intn(impl.MaxLog) {
			c := placed(0, 0, 1+from.Intn(9), from.Intn(10), "a")
			if from.Intn(9) == 0 {
				c = dropped(0, 0, c.Uid)
			}
			list = append(list, c)
		}
		nodes := impl.NodesOf(timed(list...))
		if !withoutLoop(nodes) {
			t.Fatalf("a node lies below itself: %q", nodesText(nodes))
		}
		askDirectory(t, timed(list...))
	}
}

// Names of one directory are unlike, so that it may be searched.
func TestEntriesHaveNamesOfTheirOwn(t *testing.T) {
	from := drawn()
	for range 500 {
		entries := impl.EntriesOf(drawnChanges(from, 120))
		texts := map[string]int{}
		for _, e := range entries {
			if !impl.GoodEntry(e) {
				t.Fatalf("%+v is no good entry", e)
			}
			texts[impl.NameText(e.Name)]++
		}
		if len(texts) != len(entries) {
			t.Fatalf("two entries of one name: %q", entriesText(entries))
		}
	}
}

// orders are all orders of the changes.
func orders(list []impl.DirChange) [][]impl.DirChange {
	if len(list) == 0 {
		return [][]impl.DirChange{nil}
	}
	var all [][]impl.DirChange
	for i, c := range list {
		for _, rest := range orders(slices.Delete(slices.Clone(list), i, i+1)) {
			all = append(all, append(logOf(c), rest...))
		}
	}
	return all
}

func TestTheDirectoryHangsOnNoOrder(t *testing.T) {
	log := logOf(placed(1, 3, 1, 0, "a"), placed(2, 0, 2, 1, "b"), placed(2, 1, 1, 2, "c"), put(2, 2, 2, "x", "v"), placed(3, 0, 3, 1, "b"), put(4, 0, 3, "x", "w"))
	nodes, entries := impl.NodesOf(log), impl.EntriesOf(log)
	if got := entriesText(entries); got != "cn=b,cn=a;cn=b~3,cn=a" {
		t.Errorf("EntriesOf: got %q", got)
	}
	for _, order := range orders(log) {
		if got := impl.Receive(nil, order); !slices.Equal(got, log) {
			t.Fatalf("Receive(nil, %+v): got %+v", order, got)
		}
		var one []impl.DirChange
		for i, c := range order {
			one = impl.Receive(one, append(logOf(c), order[:i]...))
		}
		if !slices.Equal(one, log) || !sameNodes(impl.NodesOf(one), nodes) || !sameEntries(impl.EntriesOf(one), entries) {
			t.Fatalf("one by one, %+v: got %+v", order, one)
		}
	}
}

func TestTheDirectoryHangsOnNoOrderOfMany(t *testing.T) {
	from := drawn()
	for range 300 {
		log := drawnChanges(from, 150)
		var got []impl.DirChange
		for range 6 {
			some := slices.Clone(log)
			from.Shuffle(len(some), func(i, j int) { some[i], some[j] = some[j], some[i] })
			some = some[:from.Intn(len(some)+1)]
			got = impl.Receive(got, append(some, some...))
		}
		got = impl.Receive(log[:len(log)/2], impl.Receive(got, log))
		if !slices.Equal(got, log) || !sameNodes(impl.NodesOf(got), nodesByWords(log)) || !sameEntries(impl.EntriesOf(got), entriesByWords(log)) {
			t.Fatalf("got %+v, want %+v", got, log)
		}
	}
}
