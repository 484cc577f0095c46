package tests

import (
	"bytes"
	"math"
	"math/rand"
	"slices"
	"strconv"
	"strings"

	"loop.example/g00036/impl"
)

// loggedEntry is the open entry of a number in the logs that are told by hand: no two are alike.
func loggedEntry(i int) impl.LogEntry {
	return impl.LogEntry{Time: i * i * i * 1003, Who: []string{"ann", "bob"}[i%2], What: "did " + strconv.Itoa(i), Salt: []byte{byte(i), byte(255 - i)}}
}

// logged is a log of so many; every third one is redacted.
func logged(many int) []impl.LogEntry {
	var list []impl.LogEntry
	for i := range many {
		e := loggedEntry(i)
		if i%3 == 2 {
			e = redactByWords(e)
		}
		list = append(list, e)
	}
	return list
}

// opens is the log of so many of which none is redacted.
func opens(many int) []impl.LogEntry {
	var list []impl.LogEntry
	for i := range many {
		list = append(list, loggedEntry(i))
	}
	return list
}

func changedEntryOf(e impl.LogEntry, change func(e *impl.LogEntry)) impl.LogEntry {
	e.Salt, e.Cover = bytes.Clone(e.Salt), bytes.Clone(e.Cover)
	change(&e)
	return e
}

func countedBytes(many int) []byte {
	var data []byte
	for i := range many {
		data = append(data, byte(i+1))
	}
	return data
}

// bothEntries are the same one, open and redacted.
func bothEntries() []impl.LogEntry {
	e := impl.LogEntry{Time: 5, Who: "ann", What: "view", Salt: []byte("salt")}
	return []impl.LogEntry{e, redactByWords(e)}
}

func goodLogEntries() []impl.LogEntry {
	good := []impl.LogEntry{
		{},
		{Salt: []byte{}, Cover: []byte{}},
		{Cover: make([]byte, 16)},
		{Salt: []byte{}, Cover: bytes.Repeat([]byte{255}, 16)},
		{Salt: []byte{0}},
		{Salt: make([]byte, 20)},
		{What: "view"},
		{Who: "ann"},
		{What: printedBytes(), Who: printedBytes()[:60]},
		{Who: printedBytes()[35:]},
		{Time: lastTime, Who: strings.Repeat("~", 60), What: strings.Repeat(" ", 200), Salt: bytes.Repeat([]byte{255}, 20)},
		{Time: lastTime, Who: strings.Repeat(" ", 60), Cover: countedBytes(16)},
	}
	for _, e := range bothEntries() {
		for _, time := range []int{0, 1, 255, 256, 65536, 1<<31 - 1, 1 << 31, 1<<32 - 1, 1 << 32, 1<<32 + 5, 1 << 36, lastTime - 1, lastTime} {
			good = append(good, changedEntryOf(e, func(e *impl.LogEntry) { e.Time = time }))
		}
		for _, length := range []int{0, 1, 2, 59, 60} {
			good = append(good, changedEntryOf(e, func(e *impl.LogEntry) { e.Who = strings.Repeat("w", length) }))
		}
	}
	open := bothEntries()[0]
	for _, length := range []int{0, 1, 2, 60, 61, 199, 200} {
		good = append(good, changedEntryOf(open, func(e *impl.LogEntry) { e.What = strings.Repeat("w", length) }))
	}
	for _, length := range []int{0, 1, 2, 15, 16, 17, 19, 20} {
		good = append(good, changedEntryOf(open, func(e *impl.LogEntry) { e.Salt = countedBytes(length) }))
		good = append(good, changedEntryOf(open, func(e *impl.LogEntry) { e.Salt, e.What = countedBytes(length), "" }))
	}
	return good
}

// notPrinted are texts with a byte that is not printed, at the first place, at the last one, between others.
func notPrinted() []string {
	var texts []string
	for _, c := range []byte{0, 9, 10, 31, 127, 128, 255} {
		texts = append(texts, string([]byte{c}), string([]byte{'a', c}), string([]byte{c, 'a'}), string([]byte{'a', c, 'b'}), strings.Repeat("a", 59)+string([]byte{c}))
	}
	return append(texts, "é", "a\r\n")
}

// badLogEntries are made of a good one by a change each.
func badLogEntries() []impl.LogEntry {
	var bad []impl.LogEntry
	add := func(e impl.LogEntry, change func(e *impl.LogEntry)) {
		bad = append(bad, changedEntryOf(e, change))
	}
	for _, e := range bothEntries() {
		for _, time := range []int{math.MinInt, -lastTime, -1 << 32, -2, -1, lastTime + 1, lastTime + 2, 1 << 40, 1<<40 + 5, math.MaxInt} {
			add(e, func(e *impl.LogEntry) { e.Time = time })
		}
		for _, who := range append(notPrinted(), strings.Repeat("w", 61), strings.Repeat("w", 200), strings.Repeat("w", 201), strings.Repeat("w", 20001)) {
			add(e, func(e *impl.LogEntry) { e.Who = who })
		}
	}
	open, redacted := bothEntries()[0], bothEntries()[1]
	for _, what := range append(notPrinted(), strings.Repeat("w", 201), strings.Repeat("w", 202), strings.Repeat("w", 20001)) {
		add(open, func(e *impl.LogEntry) { e.What = what })
		add(open, func(e *impl.LogEntry) { e.What, e.Salt = what, nil })
		add(redacted, func(e *impl.LogEntry) { e.What = what })
	}
	for _, length := range []int{21, 22, 32, 200, 20000, 20001} {
		add(open, func(e *impl.LogEntry) { e.Salt = make([]byte, length) })
		add(open, func(e *impl.LogEntry) { e.What, e.Salt = "", make([]byte, length) })
	}
	for _, length := range []int{1, 2, 15, 17, 20, 32, 160, 20001} {
		add(redacted, func(e *impl.LogEntry) { e.Cover = countedBytes(length) })
		add(open, func(e *impl.LogEntry) { e.Cover = countedBytes(length) })
	}
	// A Cover beside what is open, all of it or a part.
	add(open, func(e *impl.LogEntry) { e.Cover = redacted.Cover })
	add(redacted, func(e *impl.LogEntry) { e.What = " " })
	add(redacted, func(e *impl.LogEntry) { e.What = "view" })
	add(redacted, func(e *impl.LogEntry) { e.What = strings.Repeat("w", 200) })
	add(redacted, func(e *impl.LogEntry) { e.Salt = []byte{0} })
	add(redacted, func(e *impl.LogEntry) { e.Salt = make([]byte, 20) })
	add(redacted, func(e *impl.LogEntry) { e.Salt = make([]byte, 21) })
	// Two that are wrong make nothing right.
	add(open, func(e *impl.LogEntry) { e.Time, e.Who = -1, strings.Repeat("w", 61) })
	add(redacted, func(e *impl.LogEntry) { e.What, e.Salt = "view", []byte("salt") })
	return bad
}

func drawnLogEntry(from *rand.Rand) impl.LogEntry {
	e := impl.LogEntry{Time: from.Intn(20), Who: drawnText(from, "ab ~", 3), What: drawnText(from, "abc ~", 8), Salt: drawnBytes(from, from.Intn(4))}
	switch from.Intn(6) {
	case 0:
		e.Time = from.Intn(lastTime + 1)
	case 1:
		e.Who, e.What, e.Salt = drawnText(from, printedBytes(), 60), drawnText(from, printedBytes(), 200), drawnBytes(from, from.Intn(21))
	case 2:
		e.What, e.Salt, e.Cover = "", nil, drawnBytes(from, 16)
	}
	return e
}

func drawnLogged(from *rand.Rand, many int) []impl.LogEntry {
	var list []impl.LogEntry
	for range many {
		list = append(list, drawnLogEntry(from))
	}
	return list
}

// withEntry is the list with another one at a place.
func withEntry(list []impl.LogEntry, at int, e impl.LogEntry) []impl.LogEntry {
	list = slices.Clone(list)
	list[at] = e
	return list
}

// sizesOfLogs are those up to 20, and greater ones at powers of two and at the limit.
func sizesOfLogs() []int {
	var sizes []int
	for size := range 21 {
		sizes = append(sizes, size)
	}
	return append(sizes, 31, 32, 33, 63, 64, 65, 100, 127, 128, 129, 191, 192, 193, 199, 200)
}

// pathCase is all that CheckPath takes.
type pathCase struct {
	leaf []byte
	at   int
	size int
	path [][]byte
	root []byte
}

// bridgeCase is all that CheckBridge takes.
type bridgeCase struct {
	old     int
	size    int
	oldRoot []byte
	root    []byte
	bridge  [][]byte
}

func (c pathCase) check() bool {
	return impl.CheckPath(c.leaf, c.at, c.size, c.path, c.root)
}

func (c bridgeCase) check() bool {
	return impl.CheckBridge(c.old, c.size, c.oldRoot, c.root, c.bridge)
}

func (c pathCase) byWords() bool {
	return checkPathByWords(c.leaf, c.at, c.size, c.path, c.root)
}

func (c bridgeCase) byWords() bool {
	return checkBridgeByWords(c.old, c.size, c.oldRoot, c.root, c.bridge)
}

func pathCaseOf(list []impl.LogEntry, at int) pathCase {
	return pathCase{impl.LeafOf(list[at]), at, len(list), impl.PathOf(list, at), impl.RootOf(list)}
}

func bridgeCaseOf(list []impl.LogEntry, old int) bridgeCase {
	return bridgeCase{old, len(list), impl.RootOf(list[:old]), impl.RootOf(list), impl.BridgeOf(list, old)}
}

// changedSums are sixteen bytes with one of them changed each time, and with other numbers of bytes.
func changedSums(sum []byte) [][]byte {
	var all [][]byte
	for i := range sum {
		other := bytes.Clone(sum)
		other[i] ^= 1 << (i % 8)
		all = append(all, other)
	}
	longer := append(bytes.Clone(sum), 0)
	return append(all, nil, sum[:1], sum[:15], sum[1:], longer, append([]byte{0}, sum...), append(longer, sum[1:]...))
}

func without(list [][]byte, at int) [][]byte {
	return slices.Delete(slices.Clone(list), at, at+1)
}

func putIn(list [][]byte, at int, sum []byte) [][]byte {
	return slices.Insert(slices.Clone(list), at, sum)
}

func putFor(list [][]byte, at int, sum []byte) [][]byte {
	list = slices.Clone(list)
	list[at] = sum
	return list
}

// changedLists are a path or a bridge with one left out, put in, or changed for another; others are what may be put.
func changedLists(list [][]byte, others ...[]byte) [][][]byte {
	others = append(others, make([]byte, 16), countedBytes(16))
	others = append(others, list...)
	var all [][][]byte
	for i, sum := range list {
		all = append(all, without(list, i))
		for _, other := range changedSums(sum) {
			all = append(all, putFor(list, i, other))
		}
		for _, other := range others {
			if !bytes.Equal(sum, other) {
				all = append(all, putFor(list, i, other))
			}
		}
	}
	for at := range len(list) + 1 {
		for _, other := range append(others, nil, countedBytes(15), countedBytes(17)) {
			all = append(all, putIn(list, at, other))
		}
	}
	for i := range list {
		for j := range i {
			turned := slices.Clone(list)
			turned[i], turned[j] = turned[j], turned[i]
			all = append(all, turned)
		}
	}
	if len(list) > 0 {
		all = append(all, nil)
	}
	return append(all, slices.Concat(list, list, others))
}

// movedSums have a byte of the one end at the other, so that both behind each other are the same bytes as before.
func movedSums(a []byte, b []byte) [][2][]byte {
	return [][2][]byte{
		{a[:15], slices.Concat(a[15:], b)},
		{slices.Concat(a, b[:1]), b[1:]},
		{nil, slices.Concat(a, b)},
		{slices.Concat(a, b), nil},
	}
}

// wrongPaths are made of a right one by changes of which none leaves it right, in a log with no two alike.
func wrongPaths(c pathCase) []pathCase {
	var all []pathCase
	add := func(change func(c *pathCase)) {
		other := c
		change(&other)
		all = append(all, other)
	}
	for _, sum := range append(changedSums(c.leaf), make([]byte, 16)) {
		add(func(c *pathCase) { c.leaf = sum })
		add(func(c *pathCase) { c.leaf, c.root = sum, c.root[:len(c.root)-1] })
	}
	for _, sum := range append(changedSums(c.root), make([]byte, 16)) {
		add(func(c *pathCase) { c.root = sum })
	}
	for _, list := range changedLists(c.path, c.leaf, c.root) {
		add(func(c *pathCase) { c.path = list })
	}
	for _, size := range []int{math.MinInt, -200, -1, 0, 201, 202, 256, 1 << 32, 1<<32 + c.size, math.MaxInt} {
		add(func(c *pathCase) { c.size = size })
	}
	for _, at := range []int{math.MinInt, -1 << 32, -c.size, -1, c.size, c.size + 1, 200, 201, 1<<32 + c.at, math.MaxInt} {
		add(func(c *pathCase) { c.at = at })
	}
	if len(c.path) > 0 {
		for _, moved := range append(movedSums(c.leaf, c.path[0]), movedSums(c.path[0], c.leaf)...) {
			add(func(c *pathCase) { c.leaf, c.path = moved[0], putFor(c.path, 0, moved[1]) })
			add(func(c *pathCase) { c.leaf, c.path = moved[1], putFor(c.path, 0, moved[0]) })
		}
	}
	for _, length := range []int{0, 1, 15} {
		add(func(c *pathCase) { c.leaf, c.root, c.at, c.size, c.path = c.leaf[:length], c.leaf[:length], 0, 1, nil })
	}
	longer := append(bytes.Clone(c.leaf), 0)
	add(func(c *pathCase) { c.leaf, c.root, c.at, c.size, c.path = longer, longer, 0, 1, nil })
	add(func(c *pathCase) { c.root, c.at, c.size, c.path = c.leaf, 0, 0, nil })
	add(func(c *pathCase) { c.root, c.at, c.size, c.path = c.leaf, 1, 1, nil })
	return all
}

// otherPaths are made of a right one by changes that may leave it right.
func otherPaths(c pathCase) []pathCase {
	var all []pathCase
	for _, size := range []int{1, 2, c.size - 1, c.size + 1, c.size * 2, 128, 199, 200} {
		for _, at := range []int{0, 1, c.at - 1, c.at, c.at + 1, c.at ^ 2, c.size - 1, size - 1} {
			all = append(all, pathCase{c.leaf, at, size, c.path, c.root})
		}
	}
	return append(all, pathCase{c.root, 0, 1, nil, c.root}, pathCase{c.leaf, 0, 1, nil, c.leaf}, pathCase{c.root, c.at, c.size, c.path, c.leaf})
}

// wrongBridges are made of a right one by changes of which none leaves it right, in a log with no two alike.
func wrongBridges(c bridgeCase) []bridgeCase {
	var all []bridgeCase
	add := func(change func(c *bridgeCase)) {
		other := c
		change(&other)
		all = append(all, other)
	}
	for _, sum := range append(changedSums(c.oldRoot), make([]byte, 16)) {
		add(func(c *bridgeCase) { c.oldRoot = sum })
	}
	for _, sum := range append(changedSums(c.root), make([]byte, 16)) {
		add(func(c *bridgeCase) { c.root = sum })
	}
	for _, list := range changedLists(c.bridge, c.oldRoot, c.root) {
		add(func(c *bridgeCase) { c.bridge = list })
	}
	for _, size := range []int{math.MinInt, -200, -1, 0, c.old - 1, 201, 202, 256, 1 << 32, 1<<32 + c.size, math.MaxInt} {
		add(func(c *bridgeCase) { c.size = size })
	}
	for _, old := range []int{math.MinInt, -1 << 32, -c.size, -1, 0, c.size + 1, c.size + 2, 201, 1<<32 + c.old, math.MaxInt} {
		add(func(c *bridgeCase) { c.old = old })
	}
	if len(c.bridge) > 0 {
		for _, moved := range append(movedSums(c.oldRoot, c.bridge[0]), movedSums(c.bridge[0], c.oldRoot)...) {
			add(func(c *bridgeCase) { c.oldRoot, c.bridge = moved[0], putFor(c.bridge, 0, moved[1]) })
			add(func(c *bridgeCase) { c.oldRoot, c.bridge = moved[1], putFor(c.bridge, 0, moved[0]) })
		}
	}
	for i := range max(1, len(c.bridge)) - 1 {
		for _, moved := range append(movedSums(c.bridge[i], c.bridge[i+1]), movedSums(c.bridge[i+1], c.bridge[i])...) {
			add(func(c *bridgeCase) { c.bridge = putFor(putFor(c.bridge, i, moved[0]), i+1, moved[1]) })
			add(func(c *bridgeCase) { c.bridge = putFor(putFor(c.bridge, i, moved[1]), i+1, moved[0]) })
		}
	}
	for _, length := range []int{0, 1, 15} {
		add(func(c *bridgeCase) {
			c.oldRoot, c.root, c.old, c.bridge = c.root[:length], c.root[:length], c.size, nil
		})
	}
	longer := append(bytes.Clone(c.root), 0)
	add(func(c *bridgeCase) { c.oldRoot, c.root, c.old, c.bridge = longer, longer, c.size, nil })
	for _, size := range []int{math.MinInt, -1, 0, 201, math.MaxInt} {
		add(func(c *bridgeCase) { c.oldRoot, c.old, c.size, c.bridge = c.root, size, size, nil })
	}
	return all
}

// otherBridges are made of a right one by changes that may leave it right.
func otherBridges(c bridgeCase) []bridgeCase {
	var all []bridgeCase
	for _, size := range []int{1, 2, c.size - 1, c.size + 1, c.size * 2, 128, 199, 200} {
		for _, old := range []int{1, 2, c.old - 1, c.old, c.old + 1, c.old ^ 2, c.size - 1, c.size, size - 1, size} {
			all = append(all, bridgeCase{old, size, c.oldRoot, c.root, c.bridge})
		}
	}
	return append(all,
		bridgeCase{c.old, c.size, c.root, c.oldRoot, c.bridge},
		bridgeCase{c.size, c.size, c.root, c.root, nil},
		bridgeCase{c.size, c.size, c.oldRoot, c.oldRoot, nil},
		bridgeCase{c.size, c.size, c.oldRoot, c.root, nil},
		bridgeCase{c.old, c.size, c.root, c.root, c.bridge},
		bridgeCase{c.old, c.size, c.oldRoot, c.oldRoot, c.bridge},
	)
}

// wrongHeads are of none of the logs that the secret signs, though for each of them its own bytes are signed where they can be.
func wrongHeads(secret int, right impl.LogHead) []impl.LogHead {
	var all []impl.LogHead
	for _, size := range []int{math.MinInt, -1 << 32, -200, -1, 201, 202, 256, 1 << 32, 1<<32 + right.Size, 1<<40 + right.Size, math.MaxInt} {
		all = append(all, signedHead(secret, impl.LogHead{Size: size, Root: right.Root}), impl.LogHead{Size: size, Root: right.Root, Sig: right.Sig})
	}
	for _, root := range changedSums(right.Root) {
		all = append(all, impl.LogHead{Size: right.Size, Root: root, Sig: right.Sig})
		if len(root) != 16 {
			all = append(all, signedHead(secret, impl.LogHead{Size: right.Size, Root: root}))
		}
	}
	for _, size := range []int{0, 1, right.Size - 1, right.Size + 1, 199, 200} {
		if size != right.Size {
			all = append(all, impl.LogHead{Size: size, Root: right.Root, Sig: right.Sig})
		}
	}
	for _, sig := range []impl.Sig{{}, {R: right.Sig.R}, {Z: right.Sig.Z}, {R: right.Sig.Z, Z: right.Sig.R}, {R: right.Sig.R + 1, Z: right.Sig.Z}, {R: right.Sig.R, Z: right.Sig.Z + 1}, {R: right.Sig.R, Z: right.Sig.Z - 1}, {R: right.Sig.R, Z: right.Sig.Z + impl.Order}, {R: right.Sig.R + impl.Prime, Z: right.Sig.Z}, {R: -right.Sig.R, Z: right.Sig.Z}, {R: math.MinInt, Z: math.MaxInt}, signByWords(secret, right.Root), signByWords(secret, nil)} {
		all = append(all, impl.LogHead{Size: right.Size, Root: right.Root, Sig: sig})
	}
	return all
}
