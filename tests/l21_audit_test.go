package tests

import (
	"bytes"
	"encoding/hex"
	"math"
	"reflect"
	"slices"
	"strconv"
	"strings"
	"testing"

	"loop.example/g00036/impl"
)

func TestConstantsOfLogs(t *testing.T) {
	if impl.MaxLogged != 200 {
		t.Errorf("got %d", impl.MaxLogged)
	}
}

// hexes tells each of some bytes in a word.
func hexes(list ...[]byte) string {
	var words []string
	for _, data := range list {
		words = append(words, hex.EncodeToString(data))
	}
	return strings.Join(words, " ")
}

// askSums holds lists of sums against each other.
func askSums(t *testing.T, what string, got [][]byte, want [][]byte) {
	t.Helper()
	if hexes(got...) != hexes(want...) || len(got) != len(want) {
		t.Errorf("%s: got %d, %.300s; want %d, %.300s", what, len(got), hexes(got...), len(want), hexes(want...))
	}
}

func askLogEntry(t *testing.T, e impl.LogEntry) {
	t.Helper()
	if got, want := impl.GoodLogEntry(e), goodEntryByWords(e); got != want {
		t.Errorf("GoodLogEntry: got %v with %.300s", got, shown(e))
	}
	askSums(t, "CoverOf", [][]byte{impl.CoverOf(e)}, [][]byte{coverByWords(e)})
	askSums(t, "LeafOf", [][]byte{impl.LeafOf(e)}, [][]byte{loggedLeafByWords(e)})
	if got, want := impl.Redact(e), redactByWords(e); shown(got) != shown(want) {
		t.Errorf("Redact: got %.300s, want %.300s", shown(got), shown(want))
	}
}

// askLogged asks for paths and bridges of some numbers.
func askLogged(t *testing.T, list []impl.LogEntry, numbers ...int) {
	t.Helper()
	askTree(t, list, treeByWords(list), numbers...)
}

func askTree(t *testing.T, list []impl.LogEntry, tree loggedTree, numbers ...int) {
	t.Helper()
	askSums(t, "RootOf "+strconv.Itoa(len(list)), [][]byte{impl.RootOf(list)}, [][]byte{tree.root()})
	for _, num := range numbers {
		askSums(t, "PathOf "+strconv.Itoa(num), impl.PathOf(list, num), tree.path(num))
		askSums(t, "BridgeOf "+strconv.Itoa(num), impl.BridgeOf(list, num), tree.bridge(num))
	}
}

func askSignHead(t *testing.T, secret int, list []impl.LogEntry, tree loggedTree) {
	t.Helper()
	if got, want := impl.SignHead(secret, list), tree.signHead(secret); shown(got) != shown(want) {
		t.Errorf("SignHead with %d, of %d: got %s, want %s", secret, len(list), shown(got), shown(want))
	}
}

// These were worked out by another program.
func TestEntriesOfLogsAsToldElsewhere(t *testing.T) {
	for _, told := range []struct {
		entry impl.LogEntry
		cover string
		leaf  string
	}{
		{impl.LogEntry{}, "860619248d45756a4b4e067dc6f56c32", "e1336a57fd88033ece6d6c59ee55f548"},
		{impl.LogEntry{Time: 100000000000, Who: strings.Repeat("~", 60), What: strings.Repeat(" ", 200), Salt: []byte{236, 237, 238, 239, 240, 241, 242, 243, 244, 245, 246, 247, 248, 249, 250, 251, 252, 253, 254, 255}}, "3de0d271b2573a0730bee9766ebd2855", "9a59241af11bd6063df2800c5a4c0255"},
		{impl.LogEntry{Time: 5, Who: "ann", What: "view", Salt: []byte("s")}, "196f8904f0016266ba61bb381caa5768", "68f1296b73e7cb0098d3553f59c16274"},
		{impl.LogEntry{Time: 4294967303, Who: "ann", What: "view", Salt: []byte("s")}, "196f8904f0016266ba61bb381caa5768", "2909ad12e3fcfc414c02be6710addf66"},
		{impl.LogEntry{Time: 5, Who: "ann", Cover: []byte{0, 1, 2, 3, 4, 5, 6, 7, 8, 9, 10, 11, 12, 13, 14, 15}}, "000102030405060708090a0b0c0d0e0f", "8cca3f4116811307a304963336999576"},
		{impl.LogEntry{Time: 5, Who: "ann", Cover: make([]byte, 16)}, "00000000000000000000000000000000", "b5ab68736a0e17211198cc4807135503"},
	} {
		if got := hexes(impl.CoverOf(told.entry)); got != told.cover {
			t.Errorf("CoverOf: got %s, want %s", got, told.cover)
		}
		if got := hexes(impl.LeafOf(told.entry)); got != told.leaf {
			t.Errorf("LeafOf: got %s, want %s", got, told.leaf)
		}
	}
}

func TestTreesAsToldElsewhere(t *testing.T) {
	roots := map[int]string{
		0:   "2a9529026630bd2beeec57157cbe6d59",
		1:   "44390a5f4a4f41407830f13d36c6213a",
		2:   "7bcd1d0c6d1f3636ca6201576f050516",
		3:   "34770a1c1aedac2818e42f3ea6faef75",
		5:   "cdc61a52c6a70f2e151b18218ce04d22",
		6:   "7369490cf6823737348a452f8fff5d4e",
		7:   "5352dc48295a062aaec6ea185bf82a7e",
		8:   "9917020bdc40b53e66e83b6e5b339731",
		9:   "984cda176893717f67105d00fbe3fa1e",
		199: "fa4e5a54d67d9d5264b48945bd494c56",
		200: "aad9cd7fe3578a49c3e374731d651319",
	}
	for many, want := range roots {
		for _, list := range [][]impl.LogEntry{opens(many), logged(many)} {
			if got := hexes(impl.RootOf(list)); got != want {
				t.Errorf("RootOf %d: got %s, want %s", many, got, want)
			}
		}
	}
	for _, told := range []struct {
		what string
		sums [][]byte
		want string
	}{
		{"PathOf 0 in 7", impl.PathOf(logged(7), 0), "c43a107ba26d617c091ec91e2707814f a866f85a0f0bf70dba0a0073e427b30f e0e25f5b32f9af47323c6a384f6d6a0b"},
		{"PathOf 4 in 7", impl.PathOf(logged(7), 4), "9fc91a3cbecae171d0d337125308d376 b7b1bc28786dd971728e074876aeb006 cbe0037dabe50c3e989ec43f07465861"},
		{"PathOf 6 in 7", impl.PathOf(logged(7), 6), "856a3033823450368794b403b7e3c950 cbe0037dabe50c3e989ec43f07465861"},
		{"PathOf 192 in 200", impl.PathOf(logged(200), 192), "162fca29a2d30a38407d9c6f8b37665a 9825445175fbe25ff62b224834fa103f b1206d792d655f295e4f75780bfa1b78 ca59790a6aa00c1f480cbe1e2b1a186f 04b4b911d501723caf2ef441121d5d36"},
		{"PathOf 199 in 200", impl.PathOf(logged(200), 199), "ab68d4197c69fc1b422f9b60ccc3fb34 37f778471ed3cf04bbf83f6c27eac565 a1a6743c42fd6047af79262e08c8886f ca59790a6aa00c1f480cbe1e2b1a186f 04b4b911d501723caf2ef441121d5d36"},
		{"BridgeOf 1 in 7", impl.BridgeOf(logged(7), 1), "c43a107ba26d617c091ec91e2707814f a866f85a0f0bf70dba0a0073e427b30f e0e25f5b32f9af47323c6a384f6d6a0b"},
		{"BridgeOf 3 in 7", impl.BridgeOf(logged(7), 3), "fd483804bde0c72dfecb372a09ff0865 e9d5284bfcfb9a2767dc9236c73ba874 7bcd1d0c6d1f3636ca6201576f050516 e0e25f5b32f9af47323c6a384f6d6a0b"},
		{"BridgeOf 4 in 7", impl.BridgeOf(logged(7), 4), "e0e25f5b32f9af47323c6a384f6d6a0b"},
		{"BridgeOf 5 in 7", impl.BridgeOf(logged(7), 5), "41b46956d1fa76787fda3f6dd2938601 9fc91a3cbecae171d0d337125308d376 b7b1bc28786dd971728e074876aeb006 cbe0037dabe50c3e989ec43f07465861"},
		{"BridgeOf 6 in 7", impl.BridgeOf(logged(7), 6), "856a3033823450368794b403b7e3c950 b7b1bc28786dd971728e074876aeb006 cbe0037dabe50c3e989ec43f07465861"},
		{"BridgeOf 7 in 7", impl.BridgeOf(logged(7), 7), ""},
		{"BridgeOf 131 in 200", impl.BridgeOf(logged(200), 131), "bce96320f3ae036bbb64240401d1673f 9161656852f0ad5e8f7e770eede3351f 053a2426e758b60c5691641a335afe6e 9e393b337cbf0f6e3796155730810a52 45732e44fd167571d6a0f32acfede81b b2ee2e6ae971ed76aaa3bf2344f73934 4892a61a2905ce6c07eb9e431c001b65 e31ebf407d63d86681e3636e6c604f53 04b4b911d501723caf2ef441121d5d36"},
		{"BridgeOf 192 in 200", impl.BridgeOf(logged(200), 192), "ca59790a6aa00c1f480cbe1e2b1a186f e31ebf407d63d86681e3636e6c604f53 04b4b911d501723caf2ef441121d5d36"},
	} {
		if got := hexes(told.sums...); got != told.want {
			t.Errorf("%s: got %s, want %s", told.what, got, told.want)
		}
	}
	heads := map[int][3]impl.Sig{
		0:   {{R: 1267525138, Z: 487900494}, {R: 1956695835, Z: 791185934}, {R: 314481716, Z: 809482000}},
		1:   {{R: 1977553915, Z: 539144619}, {R: 70717654, Z: 951349546}, {R: 1200097867, Z: 935637194}},
		7:   {{R: 568509983, Z: 109324733}, {R: 286349881, Z: 162591849}, {R: 229408990, Z: 373684443}},
		200: {{R: 1439566338, Z: 603114512}, {R: 1847677558, Z: 257947798}, {R: 2137061117, Z: 439521940}},
	}
	for many, sigs := range heads {
		for i, secret := range []int{1, 4711, impl.Order - 1} {
			want := impl.LogHead{Size: many, Root: impl.RootOf(opens(many)), Sig: sigs[i]}
			if got := impl.SignHead(secret, logged(many)); !reflect.DeepEqual(got, want) {
				t.Errorf("SignHead of %d: got %+v, want %+v", many, got, want)
			}
		}
	}
}

func TestGoodLogEntry(t *testing.T) {
	for _, e := range goodLogEntries() {
		if !impl.GoodLogEntry(e) {
			t.Errorf("want it good: %s", shown(e))
		}
		askLogEntry(t, e)
	}
	for _, e := range badLogEntries() {
		if impl.GoodLogEntry(e) {
			t.Errorf("want it not good: %.300s", shown(e))
		}
		if impl.CoverOf(e) != nil || impl.LeafOf(e) != nil || !reflect.DeepEqual(impl.Redact(e), impl.LogEntry{}) {
			t.Errorf("something is told of what is not good: %.300s", shown(e))
		}
		askLogEntry(t, e)
	}
	from := drawn()
	for range 3000 {
		e := drawnLogEntry(from)
		if !impl.GoodLogEntry(e) {
			t.Errorf("want it good: %s", shown(e))
		}
		askLogEntry(t, e)
	}
}

func TestRedactKeepsTheLeaf(t *testing.T) {
	from := drawn()
	entries := goodLogEntries()
	for range 1000 {
		entries = append(entries, drawnLogEntry(from))
	}
	for _, e := range entries {
		r := impl.Redact(e)
		if r.Time != e.Time || r.Who != e.Who || r.What != "" || len(r.Salt) != 0 || len(r.Cover) != 16 || !impl.GoodLogEntry(r) {
			t.Errorf("got %s of %s", shown(r), shown(e))
		}
		if len(e.Cover) == 16 && shown(r) != shown(e) {
			t.Errorf("a redacted one is another: %s, it was %s", shown(r), shown(e))
		}
		if again := impl.Redact(r); shown(again) != shown(r) {
			t.Errorf("got %s, redacted again %s", shown(r), shown(again))
		}
		if !bytes.Equal(impl.LeafOf(r), impl.LeafOf(e)) || !bytes.Equal(impl.CoverOf(r), impl.CoverOf(e)) || !bytes.Equal(impl.CoverOf(r), r.Cover) {
			t.Errorf("the leaf is another where it is redacted: %s", shown(e))
		}
	}
}

// Whatever is changed of an entry, its leaf is another.
func TestLeavesAreApart(t *testing.T) {
	seen := map[string]string{}
	for _, e := range goodLogEntries() {
		r := impl.Redact(e)
		what, leaf := shown(r), string(impl.LeafOf(e))
		if other, ok := seen[leaf]; ok && other != what {
			t.Errorf("one leaf of %s and of %s", other, what)
		}
		seen[leaf] = what
	}
	if len(seen) < 50 {
		t.Errorf("only %d leaves", len(seen))
	}
	// What is covered is parted from its Salt.
	a, b := impl.LogEntry{What: "bc", Salt: []byte("a")}, impl.LogEntry{What: "c", Salt: []byte("ab")}
	if bytes.Equal(impl.CoverOf(a), impl.CoverOf(b)) || bytes.Equal(impl.CoverOf(impl.LogEntry{What: "a"}), impl.CoverOf(impl.LogEntry{Salt: []byte("a")})) {
		t.Error("one cover of two")
	}
}

func TestRootOf(t *testing.T) {
	for _, many := range sizesOfLogs() {
		root := impl.RootOf(logged(many))
		if len(root) != 16 {
			t.Errorf("%d: got %x", many, root)
		}
		askLogged(t, logged(many))
		askLogged(t, opens(many))
		if many > 0 && bytes.Equal(root, impl.RootOf(logged(many-1))) {
			t.Errorf("%d and one less have one root", many)
		}
	}
	for _, none := range [][]impl.LogEntry{nil, {}} {
		if got := impl.RootOf(none); !bytes.Equal(got, impl.Digest(nil)) {
			t.Errorf("RootOf none: got %x", got)
		}
	}
	for _, e := range goodLogEntries() {
		if got := impl.RootOf([]impl.LogEntry{e}); !bytes.Equal(got, impl.LeafOf(e)) {
			t.Errorf("RootOf one: got %x", got)
		}
	}
	l := logged(3)
	first := impl.Digest(slices.Concat([]byte{1}, impl.LeafOf(l[0]), impl.LeafOf(l[1])))
	if got := impl.RootOf(l); !bytes.Equal(got, impl.Digest(slices.Concat([]byte{1}, first, impl.LeafOf(l[2])))) {
		t.Errorf("RootOf three: got %x", got)
	}
}

func TestRootOfTakesNoOthers(t *testing.T) {
	for _, many := range []int{201, 202, 256, 400, 1000} {
		list := logged(many)
		if impl.RootOf(list) != nil || !reflect.DeepEqual(impl.SignHead(9, list), impl.LogHead{}) {
			t.Errorf("%d: something is told", many)
		}
		for _, num := range []int{0, 1, 2, 200, 201, many - 1, many} {
			if impl.PathOf(list, num) != nil || impl.BridgeOf(list, num) != nil {
				t.Errorf("%d: something is told of %d", many, num)
			}
		}
	}
	bad := badLogEntries()
	for _, many := range []int{1, 2, 3, 7, 8} {
		for at := range many {
			for i, e := range bad {
				if i%many != at {
					continue
				}
				list := withEntry(logged(many), at, e)
				if impl.RootOf(list) != nil || !reflect.DeepEqual(impl.SignHead(9, list), impl.LogHead{}) {
					t.Errorf("%d of %d not good: something is told", at, many)
				}
				for num := range many + 1 {
					if impl.PathOf(list, num) != nil || impl.BridgeOf(list, num) != nil {
						t.Errorf("%d of %d not good: something is told of %d", at, many, num)
					}
				}
			}
		}
	}
	list := withEntry(logged(200), 199, bad[0])
	if impl.RootOf(list) != nil || impl.PathOf(list, 0) != nil || impl.BridgeOf(list, 1) != nil {
		t.Error("the last one of 200 is not good: something is told")
	}
}

// numbersOf are all numbers of a log and those beyond its ends.
func numbersOf(many int) []int {
	numbers := []int{math.MinInt, -1 << 32, -200, -many, -1, many + 1, 199, 200, 201, 1 << 32, 1<<32 + 1, math.MaxInt}
	for num := range many + 1 {
		numbers = append(numbers, num)
	}
	return numbers
}

func TestPathsAndBridgesByTheirWords(t *testing.T) {
	for many := range 21 {
		askLogged(t, logged(many), numbersOf(many)...)
	}
	for _, many := range []int{127, 128, 129, 199, 200} {
		askLogged(t, logged(many), numbersOf(many)...)
	}
}

// Each entry and each beginning is shown under the root.
func TestEachEntryAndEachBeginningIsShown(t *testing.T) {
	for _, many := range sizesOfLogs() {
		list := logged(many)
		root := impl.RootOf(list)
		for i, e := range list {
			path := impl.PathOf(list, i)
			if !impl.CheckPath(impl.LeafOf(e), i, many, path, root) {
				t.Errorf("entry %d of %d is not shown", i, many)
			}
			if !impl.CheckPath(impl.LeafOf(loggedEntry(i)), i, many, path, root) {
				t.Errorf("entry %d of %d is not shown where it is open", i, many)
			}
			if other := list[(i+1)%many]; many > 1 && impl.CheckPath(impl.LeafOf(other), i, many, path, root) {
				t.Errorf("another than entry %d of %d is shown", i, many)
			}
			if !impl.CheckBridge(i+1, many, impl.RootOf(list[:i+1]), root, impl.BridgeOf(list, i+1)) {
				t.Errorf("the first %d of %d are not shown", i+1, many)
			}
			if i > 0 && impl.CheckBridge(i+1, many, impl.RootOf(list[1:i+1]), root, impl.BridgeOf(list, i+1)) {
				t.Errorf("others than the first %d of %d are shown", i+1, many)
			}
		}
	}
}

// What was logged cannot be changed later: that is seen by each old root that has it, and by no other.
func TestChangedLogsAreSeen(t *testing.T) {
	changes := []func(e *impl.LogEntry){
		func(e *impl.LogEntry) { e.Time++ },
		func(e *impl.LogEntry) { e.Who += "e" },
		func(e *impl.LogEntry) { e.Cover = impl.CoverOf(impl.LogEntry{What: "nothing"}) },
	}
	for _, many := range []int{1, 2, 3, 5, 6, 7, 8, 9, 12, 13} {
		list := logged(many)
		for at := range many {
			now := withEntry(list, at, impl.Redact(list[at]))
			changes[(at+many)%3](&now[at])
			root := impl.RootOf(now)
			for old := 1; old <= many; old++ {
				got := impl.CheckBridge(old, many, impl.RootOf(list[:old]), root, impl.BridgeOf(now, old))
				if got != (old <= at) {
					t.Errorf("%d of %d changed, the root of the first %d: got %v", at, many, old, got)
				}
			}
			for other := range many {
				got := impl.CheckPath(impl.LeafOf(list[other]), other, many, impl.PathOf(now, other), root)
				if got != (other != at) {
					t.Errorf("%d of %d changed, the entry %d that was: got %v", at, many, other, got)
				}
			}
		}
	}
}

// Whatever is redacted, all roots, paths, bridges and heads stay.
func TestRedactionKeepsTheTree(t *testing.T) {
	tellAll := func(list []impl.LogEntry) string {
		told := hexes(impl.RootOf(list)) + shown(impl.SignHead(77, list))
		for num := range len(list) + 1 {
			told += " " + hexes(impl.PathOf(list, num)...) + " " + hexes(impl.BridgeOf(list, num)...)
		}
		return told
	}
	for many := range 8 {
		want := tellAll(opens(many))
		for chosen := range 1 << many {
			list := opens(many)
			for i := range list {
				if chosen>>i&1 == 1 {
					list[i] = impl.Redact(list[i])
				}
			}
			if tellAll(list) != want {
				t.Errorf("other answers of %d, redacted by %b", many, chosen)
			}
		}
	}
	from := drawn()
	for range 6 {
		list := drawnLogged(from, 180+from.Intn(21))
		want := tellAll(list)
		for i := range list {
			if from.Intn(2) == 0 {
				list[i] = impl.Redact(list[i])
			}
		}
		if tellAll(list) != want {
			t.Errorf("other answers of %d drawn ones", len(list))
		}
	}
}

// lengthsOf are the numbers of sums that are told for each number.
func lengthsOf(lists func(num int) [][]byte, from int, to int) []int {
	var lengths []int
	for num := from; num <= to; num++ {
		lengths = append(lengths, len(lists(num)))
	}
	return lengths
}

func TestLengthsOfPathsAndBridges(t *testing.T) {
	for _, c := range []struct {
		many    int
		paths   []int
		bridges []int
	}{
		{1, []int{0}, []int{0}},
		{2, []int{1, 1}, []int{1, 0}},
		{3, []int{2, 2, 1}, []int{2, 1, 0}},
		{4, []int{2, 2, 2, 2}, []int{2, 1, 3, 0}},
		{5, []int{3, 3, 3, 3, 1}, []int{3, 2, 4, 1, 0}},
		{6, []int{3, 3, 3, 3, 2, 2}, []int{3, 2, 4, 1, 3, 0}},
		{7, []int{3, 3, 3, 3, 3, 3, 2}, []int{3, 2, 4, 1, 4, 3, 0}},
		{8, []int{3, 3, 3, 3, 3, 3, 3, 3}, []int{3, 2, 4, 1, 4, 3, 4, 0}},
		{9, []int{4, 4, 4, 4, 4, 4, 4, 4, 1}, []int{4, 3, 5, 2, 5, 4, 5, 1, 0}},
	} {
		list := logged(c.many)
		paths := lengthsOf(func(num int) [][]byte { return impl.PathOf(list, num) }, 0, c.many-1)
		bridges := lengthsOf(func(num int) [][]byte { return impl.BridgeOf(list, num) }, 1, c.many)
		if !slices.Equal(paths, c.paths) || !slices.Equal(bridges, c.bridges) {
			t.Errorf("%d: got paths of %v, bridges of %v", c.many, paths, bridges)
		}
	}
}

func TestCheckPathTakesNoOthers(t *testing.T) {
	ask := func(list []impl.LogEntry, at int) {
		c := pathCaseOf(list, at)
		if !c.check() || !c.byWords() {
			t.Fatalf("entry %d of %d is not shown", at, len(list))
		}
		for i, other := range wrongPaths(c) {
			if other.check() {
				t.Errorf("entry %d of %d, change %d: it is shown: %s", at, len(list), i, shown(other))
			}
		}
		for _, other := range otherPaths(c) {
			if got, want := other.check(), other.byWords(); got != want {
				t.Errorf("entry %d of %d as %d of %d: got %v", at, len(list), other.at, other.size, got)
			}
		}
	}
	for many := 1; many <= 20; many++ {
		for at := range many {
			ask(logged(many), at)
		}
	}
	for _, at := range []int{0, 1, 63, 64, 127, 128, 191, 192, 198, 199} {
		ask(logged(200), at)
	}
	for _, at := range []int{0, 127, 128, 191, 192, 195, 196, 197, 198} {
		ask(logged(199), at)
	}
}

func TestCheckBridgeTakesNoOthers(t *testing.T) {
	ask := func(list []impl.LogEntry, old int) {
		c := bridgeCaseOf(list, old)
		if !c.check() || !c.byWords() {
			t.Fatalf("the first %d of %d are not shown", old, len(list))
		}
		for i, other := range wrongBridges(c) {
			if other.check() {
				t.Errorf("the first %d of %d, change %d: they are shown: %s", old, len(list), i, shown(other))
			}
		}
		for _, other := range otherBridges(c) {
			if got, want := other.check(), other.byWords(); got != want {
				t.Errorf("the first %d of %d as %d of %d: got %v", old, len(list), other.old, other.size, got)
			}
		}
	}
	for many := 1; many <= 20; many++ {
		for old := 1; old <= many; old++ {
			ask(logged(many), old)
		}
	}
	for _, old := range []int{1, 2, 64, 127, 128, 129, 192, 199, 200} {
		ask(logged(200), old)
	}
	for _, old := range []int{1, 3, 128, 190, 191, 192, 193, 198, 199} {
		ask(logged(199), old)
	}
}

// climbed is what a way comes to, whatever the lengths of the sums are: of all of them, and of those that stand ahead of the way.
func climbed(sum []byte, list [][]byte, isAhead []bool) (all []byte, ahead []byte) {
	all, ahead = sum, sum
	for i, aside := range list {
		if isAhead[i] {
			all, ahead = jointByWords(aside, all), jointByWords(aside, ahead)
			continue
		}
		all = jointByWords(all, aside)
	}
	return all, ahead
}

// Sums of other lengths are not taken, even where the roots are what they come to.
func TestSumsOfOtherLengths(t *testing.T) {
	for _, length := range []int{0, 1, 15, 16, 17, 32, 200} {
		other, want := countedBytes(length), length == 16
		// Entry 5 of 7 has entry 4 ahead of it, entry 6 behind it, and the first four ahead of it.
		for place := range 4 {
			sums := [][]byte{countedBytes(16), make([]byte, 16), countedBytes(16), make([]byte, 16)}
			sums[place] = other
			root, _ := climbed(sums[0], sums[1:], []bool{true, false, true})
			if got := impl.CheckPath(sums[0], 5, 7, sums[1:], root); got != want {
				t.Errorf("a path with %d bytes at %d: got %v", length, place, got)
			}
		}
		// The first 6 of 13 end with entries 4 and 5; behind them two, ahead of them four, behind these five.
		for place := range 4 {
			sums := [][]byte{countedBytes(16), make([]byte, 16), countedBytes(16), make([]byte, 16)}
			sums[place] = other
			root, oldRoot := climbed(sums[0], sums[1:], []bool{false, true, false})
			if got := impl.CheckBridge(6, 13, oldRoot, root, sums); got != want {
				t.Errorf("a bridge with %d bytes at %d: got %v", length, place, got)
			}
		}
		// The first 4 of 13 have four behind them, and five behind these.
		for place := range 3 {
			sums := [][]byte{countedBytes(16), make([]byte, 16), countedBytes(16)}
			sums[place] = other
			root, oldRoot := climbed(sums[0], sums[1:], []bool{false, false})
			if got := impl.CheckBridge(4, 13, oldRoot, root, sums[1:]); got != want {
				t.Errorf("a bridge of a whole tree with %d bytes at %d: got %v", length, place, got)
			}
		}
		if got := impl.CheckPath(other, 0, 1, nil, other); got != want {
			t.Errorf("the only one with %d bytes: got %v", length, got)
		}
		if got := impl.CheckBridge(7, 7, other, other, nil); got != want {
			t.Errorf("all of them with %d bytes: got %v", length, got)
		}
	}
}

// These hold by the words though they were told of another size: the same sums stand on the same sides.
func TestSizesThatAreAlikeByTheWords(t *testing.T) {
	list := logged(7)
	path := pathCaseOf(list, 0)
	bridge := bridgeCaseOf(list, 4)
	for size, want := range map[int]bool{4: false, 5: true, 6: true, 7: true, 8: true, 9: false} {
		path.size, bridge.size = size, size
		if got := path.check(); got != want {
			t.Errorf("a path of 7 as one of %d: got %v", size, got)
		}
		if got := bridge.check(); got != want {
			t.Errorf("a bridge of 7 as one of %d: got %v", size, got)
		}
	}
}

// Of logs with many alike a sum may stand for another of the same bytes.
func TestLogsOfAlikeEntries(t *testing.T) {
	for many := 1; many <= 9; many++ {
		list := slices.Repeat([]impl.LogEntry{loggedEntry(1)}, many)
		askLogged(t, list, numbersOf(many)...)
		for at := range many {
			c := pathCaseOf(list, at)
			for num := range many {
				c.at = num
				if got, want := c.check(), c.byWords(); got != want {
					t.Errorf("entry %d of %d as %d: got %v", at, many, num, got)
				}
			}
		}
		for old := 1; old <= many; old++ {
			c := bridgeCaseOf(list, old)
			for num := 1; num <= many; num++ {
				c.old = num
				if got, want := c.check(), c.byWords(); got != want {
					t.Errorf("the first %d of %d as %d: got %v", old, many, num, got)
				}
			}
		}
	}
}

func TestDrawnPathsAndBridges(t *testing.T) {
	from := drawn()
	shown := [2]int{}
	for range 3000 {
		list := drawnLogged(from, 1+from.Intn(12))
		many := len(list)
		path, bridge := pathCaseOf(list, from.Intn(many)), bridgeCaseOf(list, 1+from.Intn(many))
		others := append(slices.Concat(path.path, bridge.bridge), path.leaf, path.root, bridge.oldRoot)
		if from.Intn(2) == 0 {
			path.at, bridge.old = from.Intn(many), 1+from.Intn(many)
			path.size, bridge.size = 1+from.Intn(many+2), 1+from.Intn(many+2)
		}
		if from.Intn(3) == 0 {
			path.path, bridge.bridge = nil, nil
			for range from.Intn(5) {
				path.path, bridge.bridge = append(path.path, oneOf(from, others)), append(bridge.bridge, oneOf(from, others))
			}
		}
		if from.Intn(4) == 0 {
			path.leaf, bridge.oldRoot = oneOf(from, others), oneOf(from, others)
		}
		if got, want := path.check(), path.byWords(); got != want {
			t.Errorf("CheckPath: got %v with %+v", got, path)
		}
		if got, want := bridge.check(), bridge.byWords(); got != want {
			t.Errorf("CheckBridge: got %v with %+v", got, bridge)
		}
		for i, ok := range []bool{path.byWords(), bridge.byWords()} {
			if ok {
				shown[i]++
			}
		}
	}
	for _, many := range shown {
		if many < 500 || many > 2500 {
			t.Errorf("only %v are shown", shown)
		}
	}
}

// What a joint is made of is no entry, and an entry is no joint: the byte ahead parts them.
func TestJointsAreNoEntries(t *testing.T) {
	list := logged(4)
	root := impl.RootOf(list)
	left, right := impl.RootOf(list[:2]), impl.RootOf(list[2:])
	if !impl.CheckPath(left, 0, 2, [][]byte{right}, root) {
		t.Error("want it by the words, as the size is another")
	}
	for _, size := range []int{1, 3, 4} {
		if impl.CheckPath(left, 0, size, [][]byte{right}, root) {
			t.Errorf("a joint is shown as an entry of %d", size)
		}
	}
	for mark := range 256 {
		joint := digestByWords(slices.Concat([]byte{byte(mark)}, left, right))
		if bytes.Equal(joint, root) != (mark == 1) {
			t.Errorf("mark %d: got %x", mark, joint)
		}
	}
}

func TestSignHead(t *testing.T) {
	for _, secret := range goodSecrets() {
		for _, many := range []int{0, 1, 7} {
			list := logged(many)
			askSignHead(t, secret, list, treeByWords(list))
			h := impl.SignHead(secret, list)
			if h.Size != many || !bytes.Equal(h.Root, impl.RootOf(list)) || !impl.CheckHead(impl.PublicOf(secret), h) {
				t.Errorf("secret %d, %d entries: got %+v", secret, many, h)
			}
		}
	}
	for _, many := range []int{0, 1, 2, 3, 8, 9, 199, 200, 201, 202} {
		askSignHead(t, 4711, logged(many), treeByWords(logged(many)))
		got := impl.SignHead(4711, logged(many))
		if (got.Sig != impl.Sig{}) != (many <= 200) || impl.CheckHead(impl.PublicOf(4711), got) != (many <= 200) {
			t.Errorf("%d entries: got %+v", many, got)
		}
	}
	for _, secret := range badSecrets() {
		for _, many := range []int{0, 1, 7, 200, 201} {
			if got := impl.SignHead(secret, logged(many)); !reflect.DeepEqual(got, impl.LogHead{}) {
				t.Errorf("secret %d: got %+v", secret, got)
			}
		}
	}
	for i, e := range badLogEntries() {
		if got := impl.SignHead(4711, withEntry(logged(4), i%4, e)); !reflect.DeepEqual(got, impl.LogHead{}) {
			t.Errorf("an entry that is not good: got %+v", got)
		}
	}
}

func TestCheckHead(t *testing.T) {
	const secret = 4711
	public := impl.PublicOf(secret)
	for _, many := range []int{0, 1, 5, 7, 8, 199, 200} {
		right := impl.SignHead(secret, logged(many))
		if !impl.CheckHead(public, right) || !checkHeadByWords(public, right) {
			t.Fatalf("the head of %d is not taken: %+v", many, right)
		}
		for i, h := range wrongHeads(secret, right) {
			if impl.CheckHead(public, h) {
				t.Errorf("the head of %d, change %d: it is taken: %+v", many, i, h)
			}
		}
		for _, other := range append(badPublics(), impl.PublicOf(1), impl.PublicOf(secret+1), secret) {
			if impl.CheckHead(other, right) {
				t.Errorf("the head of %d is taken for %d", many, other)
			}
		}
	}
	// A head is asked for no more than what it tells: any sixteen bytes may be a root, at each size in the limit.
	for size := range 201 {
		h := signedHead(secret, impl.LogHead{Size: size, Root: countedBytes(16)})
		if !impl.CheckHead(public, h) {
			t.Errorf("size %d is not taken", size)
		}
	}
	for length := range 40 {
		h := signedHead(secret, impl.LogHead{Size: 7, Root: countedBytes(length)})
		if got := impl.CheckHead(public, h); got != (length == 16) {
			t.Errorf("a Root of %d bytes: got %v", length, got)
		}
	}
	if impl.CheckHead(public, impl.LogHead{}) || impl.CheckHead(0, impl.LogHead{}) {
		t.Error("no head is taken")
	}
}

// A log grows: who keeps the head of yesterday sees by a bridge that today's log goes on from it.
func TestHeadsOfALogThatGrows(t *testing.T) {
	const secret = 77
	list := logged(40)
	heads := []impl.LogHead{}
	for many := range len(list) + 1 {
		heads = append(heads, impl.SignHead(secret, list[:many]))
	}
	for _, now := range heads[1:] {
		for _, old := range heads[1 : now.Size+1] {
			if !impl.CheckHead(impl.PublicOf(secret), old) || !impl.CheckBridge(old.Size, now.Size, old.Root, now.Root, impl.BridgeOf(list[:now.Size], old.Size)) {
				t.Errorf("%d is not seen to go on from %d", now.Size, old.Size)
			}
		}
	}
}
