package tests

import (
	"slices"
	"strconv"
	"strings"
	"testing"

	"loop.example/g00036/impl"
)

func TestConstantsOfStores(t *testing.T) {
	got := []int{impl.MaxTuples, impl.MaxBatch, impl.MaxBatches}
	kinds := []int{impl.WriteTouch, impl.WriteCreate, impl.WriteDrop, impl.WriteMust, impl.WriteMustNot}
	if !slices.Equal(got, []int{150, 30, 60}) || !slices.Equal(kinds, []int{1, 2, 3, 4, 5}) {
		t.Errorf("limits and kinds: got %d, %d", got, kinds)
	}
	if !impl.GoodRelSchema(stores()) {
		t.Errorf("the schema of the tests: want it good")
	}
}

func TestGoodTuple(t *testing.T) {
	s := stores()
	for _, g := range fitTuples() {
		if !impl.GoodTuple(s, g.tuple) || !goodTupleByWords(s, g.tuple) {
			t.Errorf("GoodTuple of %q: want true", g.text)
		}
	}
	for i, bad := range unfitTuples() {
		if impl.GoodTuple(s, bad) || fitsByWords(s, bad) {
			t.Errorf("unfit tuple %d, %.300s: want false", i, shown(bad))
		}
	}
}

// A tuple that is good in one schema may be good in no other.
func TestTuplesOfOtherSchemas(t *testing.T) {
	one := tupleOf("doc:d1#owner@user:ann")
	for _, c := range []struct {
		lines []string
		want  bool
	}{
		{[]string{"type doc", " relation owner: user", "type user"}, true},
		{[]string{"type doc", " relation owner: doc | user:* | user", "type user"}, false},
		{[]string{"type doc", " relation owner: doc | user | user:*", "type user"}, true},
		{[]string{"type doc", " relation owner: user:*", "type user"}, false},
		{[]string{"type doc", " relation owner: doc", "type user"}, false},
		{[]string{"type doc", " relation owned: user", "type user"}, false},
		{[]string{"type doc", " relation owned: user", " permission owner = owned", "type user"}, false},
		{[]string{"type doc", "type user", " relation owner: user"}, false},
		{[]string{"type doc", " relation owner: user"}, false},
		{[]string{"type doc", " relation owner: user#r", "type user", " relation r: user"}, false},
		{[]string{"caveat c(a num): a == 1", "type doc", " relation owner: user with c", "type user"}, false},
		{[]string{"type user", "type doc", " relation owner: user"}, false},
		{[]string{"type doc", " relation owner: user", " permission p = nil - p", "type user"}, false},
		{nil, false},
	} {
		s := relOf(c.lines...)
		if got := impl.GoodTuple(s, one); got != c.want || goodTupleByWords(s, one) != c.want {
			t.Errorf("GoodTuple in %q: got %v", c.lines, got)
		}
		if got := impl.GoodTuples(s, []impl.Tuple{one}); got != c.want {
			t.Errorf("GoodTuples in %q: got %v", c.lines, got)
		}
		if got := impl.GoodTuples(s, nil); got != goodRelByWords(s) {
			t.Errorf("GoodTuples of none in %q: got %v", c.lines, got)
		}
		if got := impl.Unfit(s, []impl.Tuple{one}); (len(got) == 0) != c.want {
			t.Errorf("Unfit in %q: got %v", c.lines, got)
		}
	}
}

// Each byte at each place of an id of three, and alone.
func TestIdsWithEachByte(t *testing.T) {
	s := stores()
	const signs = "abcdefghijklmnopqrstuvwxyzABCDEFGHIJKLMNOPQRSTUVWXYZ0123456789_-."
	for c := range 256 {
		sign := string([]byte{byte(c)})
		want := strings.Contains(signs, sign)
		for _, id := range []string{sign, sign + "ab", "a" + sign + "b", "ab" + sign} {
			object, subject := tupleOf("doc:d#owner@user:ann"), tupleOf("doc:d#owner@user:ann")
			object.Id, subject.SubId = id, id
			for _, x := range []impl.Tuple{object, subject} {
				if impl.GoodTuple(s, x) != want || (impl.TupleText(x) != "") != (want || id == "*" && x.SubId == "*") {
					t.Errorf("the id %q: want %v", id, want)
				}
			}
		}
	}
}

func TestLengthsOfIds(t *testing.T) {
	s := stores()
	for length := range 90 {
		for _, sign := range []string{"a", "7", "_", "-", "."} {
			object, subject := tupleOf("doc:d#owner@user:ann"), tupleOf("doc:d#owner@user:ann")
			object.Id, subject.SubId = strings.Repeat(sign, length), strings.Repeat(sign, length)
			for _, x := range []impl.Tuple{object, subject} {
				want := isBetween(length, 1, 40)
				if impl.GoodTuple(s, x) != want || (impl.TupleText(x) != "") != want {
					t.Errorf("an id of %d bytes %q: want %v", length, sign, want)
				}
			}
		}
	}
}

// Each SubId with each SubRel and Caveat, held against each kind of subject alone.
func TestStarsOfTuples(t *testing.T) {
	kinds := []string{"user", "user with c", "user:*", "user:* with c", "user#r", "user#r with c"}
	for i, kind := range kinds {
		s := relOf("caveat c(a num): a == 1", "type doc", " relation owner: "+kind, "type user", " relation r: user")
		for j, text := range []string{"user:ann", "user:ann[c:{}]", "user:*", "user:*[c:{}]", "user:ann#r", "user:ann#r[c:{}]", "user:*#r", "user:*#r[c:{}]"} {
			if got := impl.GoodTuple(s, tupleOf("doc:d#owner@"+text)); got != (i == j) {
				t.Errorf("%s as one of %s: got %v", text, kind, got)
			}
		}
	}
}

func TestGivenOfTuples(t *testing.T) {
	s := stores()
	plain, bound := tupleOf("doc:d1#viewer@user:ann"), tupleOf("doc:d1#viewer@user:ann[near:{}]")
	from, zone := addrAtom(10<<24, 8), textAtom("a")
	for _, c := range []struct {
		given        impl.Value
		plain, bound bool
	}{
		{impl.Value{}, true, false},
		{impl.Value{Items: []impl.Atom{}, Names: []string{}}, true, false},
		{recordValue(nil), false, true},
		{recordValue([]string{}, []impl.Atom{}...), false, true},
		{recordValue([]string{"from"}, from), false, true},
		{recordValue([]string{"zone"}, zone), false, true},
		{recordValue([]string{"from", "zone"}, from, zone), false, true},
		{recordValue([]string{"zone", "from"}, zone, from), false, false},
		{recordValue([]string{"from", "zone"}, zone, from), false, false},
		{recordValue([]string{"from"}, zone), false, false},
		{recordValue([]string{"from", "from"}, from, from), false, false},
		{recordValue([]string{"from", "zone"}, from), false, false},
		{recordValue([]string{"from"}, from, zone), false, false},
		{recordValue([]string{"other"}, from), false, false},
		{recordValue([]string{"from", "other"}, from, numAtom(1)), false, false},
		{recordValue([]string{"from"}, addrAtom(1, 0)), false, false},
		{recordValue([]string{"from"}, impl.Atom{}), false, false},
		{recordValue([]string{"other"}, impl.Atom{}), false, false},
		{recordValue([]string{""}, from), false, false},
		{setValue(), false, false},
		{setValue(from), false, false},
		{atomValue(from), false, false},
		{impl.Value{Names: []string{"from"}, Items: []impl.Atom{from}}, false, false},
		{impl.Value{Atom: impl.Atom{Num: 1}}, false, false},
		{impl.Value{Names: []string{""}}, false, false},
		{impl.Value{Items: []impl.Atom{{}}}, false, false},
		{impl.Value{Kind: -1}, false, false},
		{impl.Value{Kind: impl.ValueRecord, Atom: from}, false, false},
	} {
		plain.Given, bound.Given = c.given, c.given
		if impl.GoodTuple(s, plain) != c.plain || fitsByWords(s, plain) != c.plain {
			t.Errorf("%+v without a caveat: want %v", c.given, c.plain)
		}
		if impl.GoodTuple(s, bound) != c.bound || fitsByWords(s, bound) != c.bound {
			t.Errorf("%+v with a caveat: want %v", c.given, c.bound)
		}
	}
}

// Each kind of a Param with an item of each kind.
func TestGivenOfEachKind(t *testing.T) {
	for kind, word := range wordsOfKinds[1:] {
		s := relOf("caveat c(a "+word+", b "+word+"): a == b", "type doc", " relation r: doc with c")
		for other, atoms := range atomsOfKinds()[1:] {
			x := tupleOf("doc:d#r@doc:d[c:{}]")
			x.Given = recordValue([]string{"b"}, atoms[0])
			if got := impl.GoodTuple(s, x); got != (kind == other) {
				t.Errorf("an item of kind %d for a param of kind %d: got %v", other+1, kind+1, got)
			}
		}
	}
}

// Each two of them: the first must come first, whatever field they are unlike in.
func TestTuplesRiseByPlace(t *testing.T) {
	s := relOf("caveat c(a num): a == 1", "type a", " relation r: a | a with c | a:* | aa | aa#r", " relation rr: a | a with c | aa | aa#r | aa#s", "type aa", " relation r: a | aa", " relation s: a")
	texts := []string{
		"a:-#r@a:-", "a:-#r@a:.", "a:-#r@a:a", "a:-#r@aa:a", "a:-#rr@a:a", "a:0#r@a:a", "a:A#r@a:a", "a:A#rr@a:a", "a:Z#r@a:a", "a:_#r@a:a",
		"a:a#r@a:*", "a:a#r@a:1", "a:a#r@a:a", "a:a#r@a:aa", "a:a#r@a:b", "a:a#r@aa:-", "a:a#r@aa:a", "a:a#r@aa:a#r", "a:a#r@aa:aa", "a:a#r@aa:b",
		"a:a#rr@a:a", "a:a#rr@aa:a", "a:a#rr@aa:a#r", "a:a#rr@aa:a#s", "a:a#rr@aa:b", "a:a-#r@a:a", "a:aa#r@a:a", "a:ab#r@a:a", "a:b#r@a:a",
		"aa:-#r@a:a", "aa:a#r@a:a", "aa:a#r@aa:-", "aa:a#s@a:a", "aa:b#r@a:a",
	}
	list := tuplesOf(texts...)
	if !impl.GoodTuples(s, list) || !goodTuplesByWords(s, list) {
		t.Fatalf("tuples in their order: want a good list")
	}
	for i := range list {
		for j := range list {
			if got := impl.GoodTuples(s, []impl.Tuple{list[i], list[j]}); got != (i < j) {
				t.Errorf("%s ahead of %s: got %v", texts[i], texts[j], got)
			}
		}
	}
	one, bound := tupleOf("a:a#r@a:a"), tupleOf("a:a#r@a:a[c:{}]")
	if impl.GoodTuples(s, []impl.Tuple{one, bound}) || impl.GoodTuples(s, []impl.Tuple{bound, one}) {
		t.Errorf("two tuples of one place: want no good list")
	}
	slices.Reverse(list)
	var writes []impl.Write
	for _, x := range list[:impl.MaxBatch] {
		writes = append(writes, impl.Write{Kind: impl.WriteTouch, Tuple: x})
	}
	if res := impl.ApplyWrites(s, nil, writes); res.Err != 0 || tuplesText(res.Tuples) != strings.Join(texts[len(texts)-impl.MaxBatch:], " ") {
		t.Errorf("tuples put in the other way round: got %s", tuplesText(res.Tuples))
	}
}

func TestGoodTuples(t *testing.T) {
	s := stores()
	for many := range impl.MaxTuples + 3 {
		if got := impl.GoodTuples(s, countedTuples(0, many)); got != (many <= 150) {
			t.Errorf("a list of %d: got %v", many, got)
		}
	}
	for i, list := range badTupleLists() {
		if impl.GoodTuples(s, list) || goodTuplesByWords(s, list) {
			t.Errorf("bad list %d, %.300s: want false", i, shown(list))
		}
	}
	for _, g := range fitTuples() {
		if !impl.GoodTuples(s, []impl.Tuple{g.tuple}) {
			t.Errorf("the list of %s alone: want true", g.text)
		}
	}
}

func TestTuplesAreReadAsWhatTheyAre(t *testing.T) {
	for _, g := range fitTuples() {
		if got := impl.TupleText(g.tuple); got != g.text || tupleTextByWords(g.tuple) != g.text {
			t.Errorf("TupleText: got %q, want %q", got, g.text)
		}
		if got, ok := impl.ReadTuple(g.text); !ok || !sameTuple(got, g.tuple) {
			t.Errorf("ReadTuple(%q): got %+v, %v", g.text, got, ok)
		}
	}
	for _, text := range plainTexts() {
		got, ok := impl.ReadTuple(text)
		if !ok || !sameTuple(got, tupleOf(text)) || impl.TupleText(got) != text {
			t.Errorf("ReadTuple(%.200q): got %.200s, %v", text, shown(got), ok)
		}
	}
}

// isNoTuple says whether it is the zero answer.
func isNoTuple(x impl.Tuple) bool {
	return sameTuple(x, impl.Tuple{})
}

func TestTuplesWithoutText(t *testing.T) {
	for i, bad := range wordlessTuples() {
		if got := impl.TupleText(bad); got != "" || tupleTextByWords(bad) != "" {
			t.Errorf("wordless tuple %d: got %.200q", i, got)
		}
	}
	for _, text := range badTupleTexts() {
		if got, ok := impl.ReadTuple(text); ok || !isNoTuple(got) {
			t.Errorf("ReadTuple(%.200q): got %.200s, %v", text, shown(got), ok)
		}
		if _, ok := readTupleByWords(text); ok {
			t.Errorf("%.200q is read by its words", text)
		}
	}
}

func askTupleText(t *testing.T, text string) {
	got, ok := impl.ReadTuple(text)
	want, also := readTupleByWords(text)
	if ok != also || !sameTuple(got, want) {
		t.Errorf("ReadTuple(%q): got %+v, %v", text, got, ok)
	}
	if ok && impl.TupleText(got) != text || !ok && !isNoTuple(got) {
		t.Errorf("%q is told as %q", text, impl.TupleText(got))
	}
}

// Each text one byte away from a few, and each two of their bytes changed round.
func TestNoTupleIsReadThatIsNotTold(t *testing.T) {
	for _, text := range []string{"a:b#c@d:e", "a:b#c@d:*", "a:b#c@d:e#f", "a:b#c@d:e#f[g:{h:1}]", "a:b#c@d:*[g:{h:\"[:]\"}]", "doc:d-1.x#owner@user:9[fresh:{}]"} {
		askTupleText(t, text)
		changed(text, printedBytes()+"\x00\n\x1f\x7f\x80\xff", func(other string) { askTupleText(t, other) })
		for i := range text {
			for j := range text {
				other := []byte(text)
				other[i], other[j] = other[j], other[i]
				askTupleText(t, string(other))
			}
		}
		for i := range text {
			askTupleText(t, text[:i])
			askTupleText(t, text[i:])
			askTupleText(t, text[:i]+text)
			askTupleText(t, text+text[i:])
		}
	}
}

// The signs of a text in all orders, with a letter between each two or none.
func TestTupleTextsFromTheirSigns(t *testing.T) {
	for _, signs := range textsOver(":#@[]", 6) {
		askTupleText(t, strings.Join(strings.Split(signs, ""), "a"))
		askTupleText(t, "a"+strings.Join(strings.Split(signs, ""), "a"))
		askTupleText(t, "a"+strings.Join(strings.Split(signs, ""), "a")+"a")
		askTupleText(t, "a:a#a@a:a"+signs)
		askTupleText(t, "a:a#a@a:a"+signs+"a")
		askTupleText(t, "a:a#a@a:a[c:{a:\""+signs+"\"}]")
	}
}

// Lists by their texts.
type writeCase struct {
	list   []string
	writes []string
	err    int
	at     int
	want   []string
}

const (
	annOwns    = "doc:d1#owner@user:ann"
	annFresh   = "doc:d1#owner@user:ann[fresh:{}]"
	annNow     = "doc:d1#owner@user:ann[fresh:{now:@3}]"
	annLater   = "doc:d1#owner@user:ann[fresh:{now:@4}]"
	bobOwns    = "doc:d1#owner@user:bob"
	anyoneSees = "doc:d1#viewer@user:*"
	groupSees  = "doc:d1#viewer@group:g#member"
)

func askWrites(t *testing.T, c writeCase) {
	s, list, writes := stores(), tuplesOf(c.list...), writesOf(c.writes...)
	want := impl.StoreRes{Err: c.err, At: c.at, Tuples: tuplesOf(c.want...)}
	if got := impl.ApplyWrites(s, list, writes); !sameStoreRes(got, want) || !sameStoreRes(applyByWords(s, list, writes), want) {
		t.Errorf("ApplyWrites of %q on %q: got Err %d at %d, %s", c.writes, c.list, got.Err, got.At, tuplesText(got.Tuples))
	}
}

func TestApplyWrites(t *testing.T) {
	for _, c := range []writeCase{
		{nil, nil, 0, 0, nil},
		{[]string{annOwns, bobOwns}, nil, 0, 0, []string{annOwns, bobOwns}},
		{nil, []string{"touch " + annOwns}, 0, 0, []string{annOwns}},
		{nil, []string{"create " + annOwns}, 0, 0, []string{annOwns}},
		{nil, []string{"drop " + annOwns}, 5, 0, nil},
		{[]string{annOwns}, []string{"touch " + annOwns}, 0, 0, []string{annOwns}},
		{[]string{annOwns}, []string{"touch " + annNow}, 0, 0, []string{annNow}},
		{[]string{annNow}, []string{"touch " + annLater}, 0, 0, []string{annLater}},
		{[]string{annNow}, []string{"touch " + annFresh}, 0, 0, []string{annFresh}},
		{[]string{annNow}, []string{"touch " + annOwns}, 0, 0, []string{annOwns}},
		{[]string{annOwns}, []string{"create " + annOwns}, 4, 0, nil},
		{[]string{annOwns}, []string{"create " + annNow}, 4, 0, nil},
		{[]string{annNow}, []string{"create " + annOwns}, 4, 0, nil},
		{[]string{annOwns}, []string{"drop " + annOwns}, 0, 0, nil},
		{[]string{annOwns}, []string{"drop " + annNow}, 0, 0, nil},
		{[]string{annNow}, []string{"drop " + annOwns}, 0, 0, nil},
		{[]string{annNow}, []string{"drop " + annLater}, 0, 0, nil},
		{[]string{annOwns}, []string{"drop " + bobOwns}, 5, 0, nil},
		{[]string{annOwns, bobOwns, anyoneSees}, []string{"drop " + bobOwns, "touch " + groupSees}, 0, 0, []string{annOwns, groupSees, anyoneSees}},
		{[]string{bobOwns}, []string{"touch " + anyoneSees, "create " + groupSees, "touch " + annOwns}, 0, 0, []string{annOwns, bobOwns, groupSees, anyoneSees}},
		// A must asks for the place alone.
		{[]string{annOwns}, []string{"must " + annOwns}, 0, 0, []string{annOwns}},
		{[]string{annOwns}, []string{"must " + annNow}, 0, 0, []string{annOwns}},
		{[]string{annNow}, []string{"must " + annOwns}, 0, 0, []string{annNow}},
		{[]string{annNow}, []string{"must " + annLater, "touch " + annLater}, 0, 0, []string{annLater}},
		{[]string{bobOwns}, []string{"must " + annOwns}, 3, 0, nil},
		{nil, []string{"must " + annOwns}, 3, 0, nil},
		{nil, []string{"mustnot " + annOwns}, 0, 0, nil},
		{[]string{bobOwns}, []string{"mustnot " + annOwns}, 0, 0, []string{bobOwns}},
		{[]string{annOwns}, []string{"mustnot " + annOwns}, 3, 0, nil},
		{[]string{annOwns}, []string{"mustnot " + annNow}, 3, 0, nil},
		{[]string{annNow}, []string{"mustnot " + annOwns}, 3, 0, nil},
		{[]string{anyoneSees}, []string{"mustnot doc:d1#viewer@user:ann"}, 0, 0, []string{anyoneSees}},
		{[]string{anyoneSees}, []string{"must doc:d1#viewer@user:ann"}, 3, 0, nil},
		// They are looked at ahead of what is done, wherever they stand.
		{nil, []string{"touch " + annOwns, "must " + annOwns}, 3, 1, nil},
		{nil, []string{"must " + annOwns, "touch " + annOwns}, 3, 0, nil},
		{nil, []string{"touch " + annOwns, "mustnot " + annOwns}, 0, 0, []string{annOwns}},
		{nil, []string{"mustnot " + annOwns, "touch " + annOwns}, 0, 0, []string{annOwns}},
		{[]string{annOwns}, []string{"drop " + annOwns, "must " + annOwns}, 0, 0, nil},
		{[]string{annOwns}, []string{"must " + annOwns, "drop " + annOwns}, 0, 0, nil},
		{[]string{annOwns}, []string{"drop " + annOwns, "mustnot " + annOwns}, 3, 1, nil},
		{[]string{annOwns}, []string{"mustnot " + annOwns, "drop " + annOwns}, 3, 0, nil},
		{[]string{annOwns}, []string{"create " + annOwns, "must " + bobOwns}, 3, 1, nil},
		{nil, []string{"drop " + annOwns, "drop " + bobOwns, "must " + bobOwns, "mustnot " + bobOwns, "must " + annOwns}, 3, 2, nil},
		{[]string{annOwns}, []string{"mustnot " + bobOwns, "must " + annOwns, "mustnot " + annOwns, "must " + bobOwns}, 3, 2, nil},
		{[]string{annOwns}, []string{"must " + annOwns, "mustnot " + bobOwns, "create " + bobOwns, "must " + annOwns}, 0, 0, []string{annOwns, bobOwns}},
		// Two of one place.
		{nil, []string{"create " + annOwns, "create " + annOwns}, 4, 1, nil},
		{nil, []string{"create " + annOwns, "create " + annNow}, 4, 1, nil},
		{nil, []string{"create " + annOwns, "touch " + annNow}, 0, 0, []string{annNow}},
		{nil, []string{"create " + annOwns, "drop " + annNow}, 0, 0, nil},
		{nil, []string{"touch " + annOwns, "drop " + annOwns}, 0, 0, nil},
		{nil, []string{"touch " + annOwns, "touch " + annNow}, 0, 0, []string{annNow}},
		{nil, []string{"touch " + annNow, "touch " + annOwns}, 0, 0, []string{annOwns}},
		{nil, []string{"touch " + annOwns, "create " + annNow}, 4, 1, nil},
		{nil, []string{"drop " + annOwns, "create " + annOwns}, 5, 0, nil},
		{[]string{annOwns}, []string{"drop " + annOwns, "create " + annNow}, 0, 0, []string{annNow}},
		{[]string{annOwns}, []string{"drop " + annOwns, "touch " + annNow}, 0, 0, []string{annNow}},
		{[]string{annOwns}, []string{"drop " + annOwns, "drop " + annOwns}, 5, 1, nil},
		{[]string{annOwns}, []string{"touch " + annNow, "drop " + annOwns}, 0, 0, nil},
		{[]string{annOwns}, []string{"create " + annNow, "drop " + annOwns}, 4, 0, nil},
		{[]string{annOwns}, []string{"drop " + annOwns, "create " + annOwns, "drop " + annOwns, "create " + annNow, "touch " + annLater}, 0, 0, []string{annLater}},
		// What was done ahead of the one that could not be is not done either; At is its number.
		{[]string{annOwns}, []string{"touch " + bobOwns, "touch " + anyoneSees, "create " + bobOwns, "drop " + groupSees}, 4, 2, nil},
		{[]string{annOwns}, []string{"touch " + bobOwns, "touch " + anyoneSees, "drop " + groupSees, "create " + bobOwns}, 5, 2, nil},
		{[]string{annOwns}, []string{"drop " + annOwns, "touch " + bobOwns, "touch " + anyoneSees, "drop " + annOwns}, 5, 3, nil},
	} {
		askWrites(t, c)
	}
}

// Of each two faults that a batch has, in both orders, the one that is looked for first counts; a wrong write ahead of all.
func TestFaultsOfWritesInTheirOrder(t *testing.T) {
	s, list := stores(), tuplesOf(annOwns)
	wrongKind := impl.Write{Kind: 6, Tuple: tupleOf(annOwns)}
	wrongTuple := impl.Write{Kind: impl.WriteMust, Tuple: tupleOf("doc:d1#owner@user:*")}
	faults := []struct {
		err   int
		write impl.Write
	}{{2, wrongKind}, {2, wrongTuple}, {3, writeOf("must " + bobOwns)}, {3, writeOf("mustnot " + annOwns)}, {4, writeOf("create " + annNow)}, {5, writeOf("drop " + groupSees)}, {0, writeOf("touch " + anyoneSees)}, {0, writeOf("must " + annOwns)}}
	rank := func(err int) int { return []int{9, 0, 2, 3, 4, 4}[err] }
	for _, a := range faults {
		for _, b := range faults {
			writes := []impl.Write{writeOf("touch " + bobOwns), a.write, writeOf("mustnot " + groupSees), b.write}
			err, at := a.err, 1
			if rank(b.err) < rank(a.err) {
				err, at = b.err, 3
			}
			if err == 0 {
				at = 0
			}
			got := impl.ApplyWrites(s, list, writes)
			if got.Err != err || got.At != at || err != 0 && len(got.Tuples) > 0 || !sameStoreRes(got, applyByWords(s, list, writes)) {
				t.Errorf("%s: got Err %d at %d, want %d at %d", writesText(writes), got.Err, got.At, err, at)
			}
			many := append(slices.Repeat([]impl.Write{writeOf("touch " + bobOwns)}, impl.MaxBatch-3), writes...)
			if got := impl.ApplyWrites(s, list, many); got.Err != 1 || got.At != 0 || len(got.Tuples) > 0 {
				t.Errorf("%d writes: got Err %d at %d", len(many), got.Err, got.At)
			}
			if got := impl.ApplyWrites(s, tuplesOf(bobOwns, annOwns), writes); got.Err != 1 || got.At != 0 || len(got.Tuples) > 0 {
				t.Errorf("a list that is not good: got Err %d at %d", got.Err, got.At)
			}
			if got := impl.ApplyWrites(relOf("type a", " relation r: b"), nil, writes); got.Err != 1 || got.At != 0 || len(got.Tuples) > 0 {
				t.Errorf("a schema that is not good: got Err %d at %d", got.Err, got.At)
			}
		}
	}
}

func TestTheNumberOfTheWriteIsTold(t *testing.T) {
	s := stores()
	for at := range impl.MaxBatch {
		for err, word := range map[int]string{2: "touch doc:d1#owner@user:*", 3: "must " + annOwns, 4: "create doc:d10500#owner@user:ann", 5: "drop " + annOwns} {
			writes := writesWith(impl.WriteTouch, countedTuples(600, impl.MaxBatch))
			writes[at] = writeOf(word)
			list := countedTuples(500, 1)
			if got := impl.ApplyWrites(s, list, writes); got.Err != err || got.At != at || len(got.Tuples) > 0 {
				t.Errorf("write %d with Err %d: got Err %d at %d", at, err, got.Err, got.At)
			}
		}
	}
}

func TestBatchesAtTheirLimit(t *testing.T) {
	s := stores()
	for many := range impl.MaxBatch + 4 {
		for kind := impl.WriteTouch; kind <= impl.WriteMustNot; kind++ {
			list := countedTuples(0, many)
			if kind == impl.WriteCreate || kind == impl.WriteMustNot {
				list = countedTuples(100, 20)
			}
			writes := writesWith(kind, countedTuples(0, many))
			want := 0
			if many > 30 {
				want = 1
			}
			if got := impl.ApplyWrites(s, list, writes); got.Err != want || got.At != 0 || !sameStoreRes(got, applyByWords(s, list, writes)) {
				t.Errorf("%d writes of kind %d: got Err %d at %d", many, kind, got.Err, got.At)
			}
		}
	}
}

// The list may have too many on the way, as long as there are not too many in the end.
func TestTuplesAtTheirLimit(t *testing.T) {
	s := stores()
	full := countedTuples(0, impl.MaxTuples)
	more, gone := writesWith(impl.WriteCreate, countedTuples(500, 15)), writesWith(impl.WriteDrop, full[:15])
	for _, c := range []struct {
		list   []impl.Tuple
		writes []impl.Write
		err    int
	}{
		{full, nil, 0},
		{full[:149], more[:1], 0},
		{full[:148], more[:2], 0},
		{full[:120], slices.Concat(more, writesWith(impl.WriteTouch, countedTuples(600, 15))), 0},
		{full[:121], slices.Concat(more, writesWith(impl.WriteTouch, countedTuples(600, 15))), 6},
		{full, more[:1], 6},
		{full, writesWith(impl.WriteTouch, countedTuples(500, 1)), 6},
		{full[:149], more[:2], 6},
		{full, writesWith(impl.WriteTouch, full[:30]), 0},
		{full, writesWith(impl.WriteMust, full[:30]), 0},
		{full, writesWith(impl.WriteMustNot, countedTuples(500, 30)), 0},
		{full, slices.Concat(more, gone), 0},
		{full, slices.Concat(gone, more), 0},
		{full, slices.Concat(more[:1], gone[:1]), 0},
		{full, slices.Concat(more[:2], gone[:1]), 6},
		{full, slices.Concat(gone[:1], more[:2]), 6},
		{full, slices.Concat(more, gone[:14]), 6},
		{full, slices.Concat(more, writesWith(impl.WriteDrop, countedTuples(500, 15))), 0},
		{full, slices.Concat(more[:1], more[:1]), 4},
		{full, slices.Concat(more[:3], writesWith(impl.WriteDrop, countedTuples(700, 1))), 5},
		{full, slices.Concat(more[:3], writesWith(impl.WriteMust, countedTuples(500, 1))), 3},
	} {
		got := impl.ApplyWrites(s, c.list, c.writes)
		if got.Err != c.err || !sameStoreRes(got, applyByWords(s, c.list, c.writes)) {
			t.Errorf("%d tuples, %d writes: got Err %d at %d, %d tuples, want Err %d", len(c.list), len(c.writes), got.Err, got.At, len(got.Tuples), c.err)
		}
		if c.err == 6 && (got.At != 0 || len(got.Tuples) > 0) {
			t.Errorf("Err 6: got At %d, %d tuples", got.At, len(got.Tuples))
		}
	}
}

// All batches of two and of three writes of two places, on each list of them.
func TestAllSmallBatches(t *testing.T) {
	s := stores()
	var all []impl.Write
	for kind := impl.WriteTouch; kind <= impl.WriteMustNot; kind++ {
		for _, text := range []string{annOwns, annNow, bobOwns} {
			all = append(all, impl.Write{Kind: kind, Tuple: tupleOf(text)})
		}
	}
	lists := [][]impl.Tuple{nil, tuplesOf(annOwns), tuplesOf(annFresh), tuplesOf(bobOwns), tuplesOf(annNow, bobOwns)}
	for _, list := range lists {
		for _, a := range all {
			for _, b := range all {
				for _, c := range all {
					writes := []impl.Write{a, b, c}
					if got, want := impl.ApplyWrites(s, list, writes), doneByWords(s, list, writes); !sameStoreRes(got, want) {
						t.Fatalf("%s on %s: got Err %d at %d, %s", writesText(writes), tuplesText(list), got.Err, got.At, tuplesText(got.Tuples))
					}
				}
			}
		}
	}
}

func TestBatchesOfNoGoodOnes(t *testing.T) {
	s := stores()
	for err, batches := range badBatches() {
		for i, writes := range batches {
			got := impl.ApplyWrites(s, nil, writes)
			if got.Err != err || len(got.Tuples) > 0 || !sameStoreRes(got, doneByWords(s, nil, writes)) {
				t.Errorf("bad batch %d of Err %d: got Err %d at %d", i, err, got.Err, got.At)
			}
			if got, have := impl.AcceptBatch(s, nil, writes); have != err || len(got) > 0 {
				t.Errorf("bad batch %d of Err %d: AcceptBatch told %d, %d batches", i, err, have, len(got))
			}
		}
	}
	for i, list := range badTupleLists() {
		if got := impl.ApplyWrites(s, list, writesOf("touch "+bobOwns)); !sameStoreRes(got, impl.StoreRes{Err: 1}) {
			t.Errorf("bad list %d: got Err %d at %d", i, got.Err, got.At)
		}
		if got := impl.ApplyWrites(s, list, nil); !sameStoreRes(got, impl.StoreRes{Err: 1}) {
			t.Errorf("bad list %d, no writes: got Err %d at %d", i, got.Err, got.At)
		}
	}
}

// Promise 7: drawn batches leave all that they ask for, or nothing at all.
func TestABatchIsDoneAsAWholeOrNotAtAll(t *testing.T) {
	s, from := stores(), drawn()
	met := map[int]int{}
	var list []impl.Tuple
	for range 6000 {
		writes := drawnBatch(from, 7)
		got := impl.ApplyWrites(s, list, writes)
		if want := doneByWords(s, list, writes); !sameStoreRes(got, want) {
			t.Fatalf("%s on %s: got Err %d at %d, %s, want Err %d at %d", writesText(writes), tuplesText(list), got.Err, got.At, tuplesText(got.Tuples), want.Err, want.At)
		}
		met[got.Err]++
		if got.Err != 0 {
			continue
		}
		if !impl.GoodTuples(s, got.Tuples) {
			t.Fatalf("%s on %s leaves no good list", writesText(writes), tuplesText(list))
		}
		list = got.Tuples
	}
	for _, err := range []int{0, 3, 4, 5} {
		if met[err] < 150 {
			t.Errorf("only %d batches had Err %d", met[err], err)
		}
	}
}

func TestAcceptBatch(t *testing.T) {
	s := stores()
	store := [][]impl.Write{writesOf("create "+annOwns, "create "+groupSees), writesOf("drop "+annOwns, "must "+groupSees), {}}
	for _, c := range []struct {
		writes []string
		err    int
	}{
		{nil, 0},
		{[]string{"create " + annNow}, 0},
		{[]string{"touch " + groupSees, "mustnot " + annOwns}, 0},
		{[]string{"create " + groupSees}, 4},
		{[]string{"drop " + annOwns}, 5},
		{[]string{"must " + annOwns}, 3},
		{[]string{"mustnot " + groupSees}, 3},
		{[]string{"touch doc:d1#owner@user:*"}, 2},
	} {
		writes := writesOf(c.writes...)
		got, err := impl.AcceptBatch(s, store, writes)
		if err != c.err || (len(got) == 0) != (c.err != 0) {
			t.Errorf("AcceptBatch of %q: got %d batches, Err %d", c.writes, len(got), err)
		}
		if err == 0 && !sameBatches(got, append(slices.Clone(store), writes)) {
			t.Errorf("AcceptBatch of %q: got another store", c.writes)
		}
	}
	if got, err := impl.AcceptBatch(s, nil, nil); err != 0 || len(got) != 1 || len(got[0]) != 0 {
		t.Errorf("an empty batch on an empty store: got %d batches, Err %d", len(got), err)
	}
}

func TestStoresAtTheirLimits(t *testing.T) {
	s := stores()
	for _, many := range []int{5, 58, 59, 60, 61, 62, 200} {
		store := fullStore(many)
		err, left, there := 0, many+1, 150
		if many >= 60 {
			err, left = 7, 0
		}
		if many > 60 {
			there = 0
		}
		if got, have := impl.AcceptBatch(s, store, writesOf("mustnot "+annOwns)); have != err || len(got) != left {
			t.Errorf("a store of %d batches: got %d, Err %d", many, len(got), have)
		}
		// A store that is full has no room for a wrong batch either.
		if _, have := impl.AcceptBatch(s, store, make([]impl.Write, 31)); have != max(err, 1) {
			t.Errorf("a store of %d batches, too many writes: got Err %d", many, have)
		}
		if _, have := impl.AcceptBatch(s, store, writesOf("touch "+annOwns)); have != max(err, 6) {
			t.Errorf("a store of %d batches, too many tuples: got Err %d", many, have)
		}
		if got := impl.TuplesAt(s, store, many); len(got) != there {
			t.Errorf("a store of %d batches: got %d tuples", many, len(got))
		}
		if got := impl.ChangesBetween(s, store, 0, many); len(got) != there {
			t.Errorf("a store of %d batches: got %d changes", many, len(got))
		}
	}
	// A batch that goes above the limit on the way is one of a good store.
	over := append(fullStore(5), slices.Concat(writesWith(impl.WriteCreate, countedTuples(500, 15)), writesWith(impl.WriteDrop, countedTuples(0, 15))))
	if got := impl.TuplesAt(s, over, 6); !sameTuples(got, append(countedTuples(15, 135), countedTuples(500, 15)...)) {
		t.Errorf("a store that is above the limit on the way: got %d tuples", len(got))
	}
}

func TestStoresThatAreNotGood(t *testing.T) {
	s := stores()
	for i, store := range badStores() {
		if got, err := impl.AcceptBatch(s, store, nil); len(got) > 0 || err != 7 {
			t.Errorf("bad store %d: got %d batches, Err %d", i, len(got), err)
		}
		if got, err := impl.AcceptBatch(s, store, make([]impl.Write, 31)); len(got) > 0 || err != 7 {
			t.Errorf("bad store %d, too many writes: got %d batches, Err %d", i, len(got), err)
		}
		for rev := range min(len(store), 70) + 1 {
			if got := impl.TuplesAt(s, store, rev); len(got) > 0 {
				t.Errorf("bad store %d: got %d tuples at %d", i, len(got), rev)
			}
			if got := impl.ChangesBetween(s, store, 0, rev); len(got) > 0 {
				t.Errorf("bad store %d: got %d changes to %d", i, len(got), rev)
			}
		}
		if len(storeByWords(s, store)) > 0 {
			t.Errorf("bad store %d is good by its words", i)
		}
	}
	good := [][]impl.Write{writesOf("create " + annOwns)}
	for _, bad := range []impl.RelSchema{relOf("type a", " relation r: b"), relOf("type doc", " relation owner: user", " permission p = nil - p", "type user"), {}} {
		if got, err := impl.AcceptBatch(bad, good, nil); len(got) > 0 || err != 7 {
			t.Errorf("another schema: got %d batches, Err %d", len(got), err)
		}
		if got := impl.TuplesAt(bad, good, 1); len(got) > 0 {
			t.Errorf("another schema: got %d tuples", len(got))
		}
		if got := impl.ChangesBetween(bad, good, 0, 1); len(got) > 0 {
			t.Errorf("another schema: got %d changes", len(got))
		}
	}
	if got, err := impl.AcceptBatch(relOf("type a", " relation r: b"), nil, nil); len(got) > 0 || err != 7 {
		t.Errorf("no batches in a schema that is not good: got %d batches, Err %d", len(got), err)
	}
}

func TestTuplesAt(t *testing.T) {
	s := stores()
	store := [][]impl.Write{
		writesOf("create "+bobOwns, "create "+annOwns),
		writesOf("touch "+annNow, "mustnot "+groupSees),
		{},
		writesOf("drop "+bobOwns, "create "+anyoneSees),
		writesOf("drop "+annOwns, "drop "+anyoneSees),
	}
	want := []string{"", annOwns + " " + bobOwns, annNow + " " + bobOwns, annNow + " " + bobOwns, annNow + " " + anyoneSees, ""}
	for rev, told := range want {
		if got := impl.TuplesAt(s, store, rev); tuplesText(got) != told {
			t.Errorf("TuplesAt %d: got %s", rev, tuplesText(got))
		}
	}
	for _, rev := range append(oddInts(), 6, 7) {
		if isBetween(rev, 0, 5) {
			continue
		}
		if got := impl.TuplesAt(s, store[:2], rev); len(got) > 0 {
			t.Errorf("TuplesAt %d: got %s", rev, tuplesText(got))
		}
	}
	if got := impl.TuplesAt(s, store[:2], 3); len(got) > 0 {
		t.Errorf("a revision beyond the newest: got %s", tuplesText(got))
	}
	if got := impl.TuplesAt(s, store[:4], 4); tuplesText(got) != want[4] {
		t.Errorf("the newest revision: got %s", tuplesText(got))
	}
}

func TestChangesBetween(t *testing.T) {
	s := stores()
	store := [][]impl.Write{
		writesOf("create "+bobOwns, "create "+annOwns),
		writesOf("touch "+annNow, "must "+bobOwns),
		writesOf("touch "+annLater, "touch "+bobOwns),
		writesOf("drop "+bobOwns, "create "+anyoneSees, "touch "+annNow),
		writesOf("drop "+anyoneSees, "drop "+annOwns, "create "+annFresh, "touch "+groupSees),
	}
	for _, c := range []struct {
		from, to int
		want     string
	}{
		{0, 0, ""},
		{3, 3, ""},
		{5, 5, ""},
		{0, 1, "touch " + annOwns + ", touch " + bobOwns},
		{1, 2, "touch " + annNow},
		{2, 3, "touch " + annLater},
		{2, 4, "drop " + bobOwns + ", touch " + anyoneSees},
		{1, 3, "touch " + annLater},
		{3, 4, "touch " + annNow + ", drop " + bobOwns + ", touch " + anyoneSees},
		{4, 5, "touch " + annFresh + ", touch " + groupSees + ", drop " + anyoneSees},
		{0, 5, "touch " + annFresh + ", touch " + groupSees},
		{1, 5, "touch " + annFresh + ", drop " + bobOwns + ", touch " + groupSees},
		{1, 0, ""},
		{5, 4, ""},
		{4, 2, ""},
		{-1, 0, ""},
		{-1, 5, ""},
		{0, -1, ""},
		{0, 6, ""},
		{5, 6, ""},
		{6, 6, ""},
		{7, 6, ""},
	} {
		if got := impl.ChangesBetween(s, store, c.from, c.to); writesText(got) != c.want {
			t.Errorf("ChangesBetween %d and %d: got %s", c.from, c.to, writesText(got))
		}
	}
}

// A drop tells the tuple that was there, not the one by which it was dropped.
func TestADropTellsWhatWasThere(t *testing.T) {
	store := [][]impl.Write{writesOf("create " + annNow), writesOf("drop " + annLater)}
	if got := writesText(impl.ChangesBetween(stores(), store, 1, 2)); got != "drop "+annNow {
		t.Errorf("got %s", got)
	}
}

// Promise 7: between each two revisions of drawn stores.
func TestTheChangesMakeTheOneOfTheOther(t *testing.T) {
	s, from := stores(), drawn()
	for round := range 40 {
		store := drawnStore(from, []int{1, 5, 9, 14}[round%4])
		all := storeByWords(s, store)
		for first := range all {
			if got := impl.TuplesAt(s, store, first); !sameTuples(got, all[first]) {
				t.Fatalf("TuplesAt %d: got %s, want %s", first, tuplesText(got), tuplesText(all[first]))
			}
			for last := range all {
				changes := impl.ChangesBetween(s, store, first, last)
				if first > last {
					if len(changes) > 0 {
						t.Fatalf("changes back from %d to %d: got %s", first, last, writesText(changes))
					}
					continue
				}
				if !sameWrites(changes, changesByWords(all[first], all[last])) {
					t.Fatalf("changes from %s to %s: got %s", tuplesText(all[first]), tuplesText(all[last]), writesText(changes))
				}
				if got := impl.ApplyWrites(s, all[first], changes); got.Err != 0 || !sameTuples(got.Tuples, all[last]) {
					t.Fatalf("%s, done on %s: got Err %d at %d, %s", writesText(changes), tuplesText(all[first]), got.Err, got.At, tuplesText(got.Tuples))
				}
			}
		}
	}
}

// No change can be left out.
func TestNoChangeIsNeedless(t *testing.T) {
	s, from := stores(), drawn()
	for range 60 {
		store := drawnStore(from, 6)
		before, after := impl.TuplesAt(s, store, 3), impl.TuplesAt(s, store, 6)
		changes := impl.ChangesBetween(s, store, 3, 6)
		for i := range changes {
			fewer := slices.Delete(slices.Clone(changes), i, i+1)
			if got := impl.ApplyWrites(s, before, fewer); got.Err != 0 || sameTuples(got.Tuples, after) {
				t.Fatalf("%s without number %d makes the same of %s", writesText(changes), i, tuplesText(before))
			}
		}
	}
}

// Promise 7: whatever is accepted later, and whatever is not.
func TestWhatWasAtARevisionStays(t *testing.T) {
	s, from := stores(), drawn()
	var store [][]impl.Write
	kept := [][]impl.Tuple{nil}
	refused := 0
	for len(store) < impl.MaxBatches {
		writes := drawnBatch(from, 6)
		next, err := impl.AcceptBatch(s, store, writes)
		res := impl.ApplyWrites(s, kept[len(store)], writes)
		if err != res.Err || err != 0 && len(next) > 0 {
			t.Fatalf("AcceptBatch told %d, ApplyWrites %d", err, res.Err)
		}
		if err != 0 {
			refused++
			continue
		}
		if !sameBatches(next, append(slices.Clone(store), writes)) {
			t.Fatalf("AcceptBatch: got another store")
		}
		store, kept = next, append(kept, res.Tuples)
		for rev, list := range kept {
			if got := impl.TuplesAt(s, store, rev); !sameTuples(got, list) {
				t.Fatalf("revision %d after %d batches: got %s, want %s", rev, len(store), tuplesText(got), tuplesText(list))
			}
		}
	}
	if refused < 20 {
		t.Errorf("only %d batches were refused", refused)
	}
	for first := 0; first <= impl.MaxBatches; first += 7 {
		for last := first; last <= impl.MaxBatches; last += 3 {
			if got := impl.ChangesBetween(s, store, first, last); !sameWrites(got, changesByWords(kept[first], kept[last])) {
				t.Errorf("changes from %d to %d: got %s", first, last, writesText(got))
			}
		}
	}
	if got, err := impl.AcceptBatch(s, store, nil); len(got) > 0 || err != 7 {
		t.Errorf("a full store: got %d batches, Err %d", len(got), err)
	}
}

func TestTheMostChanges(t *testing.T) {
	s := stores()
	store := fullStore(5)
	for i := range 5 {
		store = append(store, writesWith(impl.WriteDrop, countedTuples(30*i, 30)))
	}
	for i := range 5 {
		store = append(store, writesWith(impl.WriteCreate, countedTuples(500+30*i, 30)))
	}
	got := impl.ChangesBetween(s, store, 5, 15)
	want := append(writesWith(impl.WriteDrop, countedTuples(0, 150)), writesWith(impl.WriteTouch, countedTuples(500, 150))...)
	if !sameWrites(got, want) {
		t.Errorf("changes of all there can be: got %d", len(got))
	}
}

func TestTokensAsToldElsewhere(t *testing.T) {
	for _, c := range []struct {
		secret, rev int
		want        string
	}{
		{5, 17, "r17.gf804qmn0d53a"},
		{1, 0, "r0.t297o981pon3i"},
		{77, 1, "r1.hhp9s0paeglmm"},
		{1073741788, 1000000, "r1000000.7l2k29a3h37kc"},
		{5, 170, "r170.3e0p030k98a7g"},
		{12345, 999999, "r999999.aq1ngqofdc94i"},
	} {
		if got := impl.TokenOf(c.secret, c.rev); got != c.want {
			t.Errorf("TokenOf(%d, %d): got %q, want %q", c.secret, c.rev, got, c.want)
		}
		if got, ok := impl.ReadToken(c.secret, c.want); got != c.rev || !ok {
			t.Errorf("ReadToken(%d, %q): got %d, %v", c.secret, c.want, got, ok)
		}
	}
}

func toldRevs() []int {
	return []int{0, 1, 2, 9, 10, 11, 99, 100, 101, 1000, 12345, 99999, 100000, 999999, 1000000}
}

func TestTokensByTheirWords(t *testing.T) {
	for _, secret := range goodSecrets() {
		for _, rev := range toldRevs() {
			token := impl.TokenOf(secret, rev)
			if token == "" || token != tokenByWords(secret, rev) {
				t.Errorf("TokenOf(%d, %d): got %q", secret, rev, token)
			}
			if got, ok := impl.ReadToken(secret, token); got != rev || !ok {
				t.Errorf("ReadToken(%d, %q): got %d, %v", secret, token, got, ok)
			}
			for _, other := range append(badSecrets(), secret-1, secret+1) {
				if got, ok := impl.ReadToken(other, token); ok || got != 0 {
					t.Errorf("ReadToken(%d, %q): got %d, %v", other, token, got, ok)
				}
			}
		}
	}
	for rev := range 3000 {
		if got, ok := impl.ReadToken(7, impl.TokenOf(7, rev)); got != rev || !ok {
			t.Errorf("the token of %d: got %d, %v", rev, got, ok)
		}
	}
}

func TestTokensOfNoGoodNumbers(t *testing.T) {
	for _, rev := range append(oddInts(), 1000001, 1000002, 9999999, -2) {
		for _, secret := range append(goodSecrets(), badSecrets()...) {
			token := impl.TokenOf(secret, rev)
			if token != tokenByWords(secret, rev) {
				t.Errorf("TokenOf(%d, %d): got %q", secret, rev, token)
			}
			if (token != "") != (isBetween(secret, 1, impl.Order-1) && isBetween(rev, 0, 1000000)) {
				t.Errorf("TokenOf(%d, %d): got %q", secret, rev, token)
			}
		}
	}
	// The token that a rev beyond the limit would have.
	for _, rev := range []int{1000001, 1000002, 9999999, 10000000} {
		own := "r" + strconv.Itoa(rev)
		text := own + "." + armorByWords(macByWords(fourBytes(5), []byte(own))[:8])
		if got, ok := impl.ReadToken(5, text); ok || got != 0 {
			t.Errorf("ReadToken(5, %q): got %d, %v", text, got, ok)
		}
	}
	// The token that a secret would have that is none.
	for _, secret := range badSecrets() {
		text := "r3." + armorByWords(macByWords(fourBytes(secret), []byte("r3"))[:8])
		if got, ok := impl.ReadToken(secret, text); ok || got != 0 {
			t.Errorf("ReadToken(%d, %q): got %d, %v", secret, text, got, ok)
		}
		if got, ok := impl.ReadToken(secret, ""); ok || got != 0 {
			t.Errorf("ReadToken(%d) of the empty text: got %d, %v", secret, got, ok)
		}
	}
}

// signed is a text with the Mac that a token of it would have.
func signed(secret int, own string) string {
	return own + "." + armorByWords(macByWords(fourBytes(secret), []byte(own))[:8])
}

// Digits that no number is told by, even where the Mac is that of the text.
func TestTokensWithOtherDigits(t *testing.T) {
	for _, own := range []string{"r", "r-1", "r-0", "r+0", "r+1", "r00", "r01", "r017", "r0017", "r0000000", "r1_0", "r0x1", "r1e3", "r 1", "r1 ", "r1.0", "r01000000", "r1a", "ra", "17", "R17", "rr17", "s17", " r17", "r17r", "r٣", "r99999999999999999999", "r9223372036854775808", "r-9223372036854775808", "r18446744073709551617"} {
		for _, text := range []string{signed(5, own), own + strings.TrimPrefix(impl.TokenOf(5, 17), "r17"), own + ".", own, own + "." + armorByWords(macByWords(fourBytes(5), []byte("r17"))[:8])} {
			if got, ok := impl.ReadToken(5, text); ok || got != 0 {
				t.Errorf("ReadToken(5, %q): got %d, %v", text, got, ok)
			}
		}
	}
}

// Each text one byte away from a token, and each end of one.
func TestChangedTokens(t *testing.T) {
	for _, rev := range []int{0, 17, 1000000} {
		token := impl.TokenOf(5, rev)
		changed(token, printedBytes()+"\x00\n\xff", func(other string) {
			if got, ok := impl.ReadToken(5, other); ok != (other == token) || !ok && got != 0 {
				t.Errorf("ReadToken(5, %q): got %d, %v", other, got, ok)
			}
			if got, ok := readTokenByWords(5, other); ok != (other == token) || !ok && got != 0 {
				t.Errorf("by its words %q: got %d, %v", other, got, ok)
			}
		})
		for i := range token {
			for _, other := range []string{token[:i], token[i+1:], token + token[i:], strings.ToUpper(token)} {
				if got, ok := impl.ReadToken(5, other); ok || got != 0 {
					t.Errorf("ReadToken(5, %q): got %d, %v", other, got, ok)
				}
			}
		}
		for _, other := range toldRevs() {
			_, mac, _ := strings.Cut(impl.TokenOf(5, other), ".")
			text := "r" + strconv.Itoa(rev) + "." + mac
			if got, ok := impl.ReadToken(5, text); ok != (other == rev) || !ok && got != 0 {
				t.Errorf("ReadToken(5, %q): got %d, %v", text, got, ok)
			}
		}
		long := "r" + strconv.Itoa(rev) + "." + armorByWords(macByWords(fourBytes(5), []byte("r"+strconv.Itoa(rev))))
		if got, ok := impl.ReadToken(5, long); ok || got != 0 {
			t.Errorf("the whole Mac: got %d, %v", got, ok)
		}
	}
}

func TestUnfit(t *testing.T) {
	s := stores()
	good := tuplesOf(annOwns, bobOwns, annOwns, anyoneSees, annNow)
	if got := impl.Unfit(s, good); len(got) != 0 {
		t.Errorf("good tuples, in no order and twice: got %v", got)
	}
	for _, c := range []struct {
		texts []string
		want  []int
	}{
		{nil, nil},
		{[]string{"doc:d1#owner@user:*"}, []int{0}},
		{[]string{"doc:d1#owner@user:*", annOwns}, []int{0}},
		{[]string{annOwns, "doc:d1#owner@user:*"}, []int{1}},
		{[]string{bobOwns, "a:a#a@a:a", annOwns, annOwns, "a:a#a@a:a", "doc:d1#view@user:ann", anyoneSees}, []int{1, 4, 5}},
	} {
		if got := impl.Unfit(s, tuplesOf(c.texts...)); !slices.Equal(got, c.want) {
			t.Errorf("Unfit of %q: got %v", c.texts, got)
		}
	}
	all := unfitTuples()
	for _, g := range fitTuples() {
		all = append(all, g.tuple)
	}
	got := impl.Unfit(s, all)
	if len(got) != len(unfitTuples()) || got[len(got)-1] != len(unfitTuples())-1 {
		t.Errorf("Unfit of all: got %v", got)
	}
	if got := impl.Unfit(relOf("type a", " relation r: b"), good); !slices.Equal(got, []int{0, 1, 2, 3, 4}) {
		t.Errorf("in a schema that is not good: got %v", got)
	}
	if got := impl.Unfit(impl.RelSchema{}, good); !slices.Equal(got, []int{0, 1, 2, 3, 4}) {
		t.Errorf("in an empty schema: got %v", got)
	}
}

func TestUnfitAtItsLimit(t *testing.T) {
	for _, s := range []impl.RelSchema{stores(), {}, relOf("type a", " relation r: b")} {
		for _, many := range []int{999, 1000, 1001, 3000} {
			want := many
			if many > 1000 {
				want = 0
			}
			got := impl.Unfit(s, make([]impl.Tuple, many))
			if len(got) != want || want > 0 && got[want-1] != want-1 {
				t.Errorf("%d unfit tuples: got %d", many, len(got))
			}
		}
	}
	if got := impl.Unfit(stores(), countedTuples(0, 1000)); len(got) != 0 {
		t.Errorf("1000 good tuples: got %d", len(got))
	}
}

// What one schema lets through another may not: that is what Unfit tells of a schema that is changed.
func TestUnfitBehindAChangeOfTheSchema(t *testing.T) {
	from := drawn()
	for range 300 {
		s := stores()
		typ := &s.Types[0]
		at := from.Intn(len(typ.Relations))
		r := &typ.Relations[at]
		r.Subjects = slices.Delete(r.Subjects, 0, 1)
		if len(r.Subjects) == 0 {
			typ.Relations, typ.Permissions = slices.Delete(typ.Relations, at, at+1), nil
			s.Types[1].Relations = s.Types[1].Relations[:1]
		}
		var list []impl.Tuple
		var want []int
		for i := range 20 {
			list = append(list, drawnTuple(from))
			if !goodTupleByWords(s, list[i]) {
				want = append(want, i)
			}
		}
		if got := impl.Unfit(s, list); !slices.Equal(got, want) {
			t.Fatalf("Unfit of %s: got %v, want %v", tuplesText(list), got, want)
		}
	}
}
