package tests

import (
	"bytes"
	"encoding/binary"
	"math/bits"
	"regexp"
	"slices"

	"loop.example/g00036/impl"
)

// What the document says of chapter 21, worked out in another way than the program does: a tree is built up level by level, and the last one of a level that has none beside it goes up as it is. What a path or a bridge comes to is told by the halves of numbers alone, with no tree.

var whoText = regexp.MustCompile(`^[ -~]{0,60}$`)

func isOpenByWords(e impl.LogEntry) bool {
	return len(e.Cover) == 0 && wholeDocText.MatchString(e.What) && len(e.Salt) < 21
}

func isRedactedByWords(e impl.LogEntry) bool {
	return len(e.Cover) == 16 && e.What+string(e.Salt) == ""
}

func goodEntryByWords(e impl.LogEntry) bool {
	return isTimeByWords(e.Time) && whoText.MatchString(e.Who) && (isOpenByWords(e) || isRedactedByWords(e))
}

func goodLoggedByWords(list []impl.LogEntry) bool {
	return len(list) < 201 && !slices.ContainsFunc(list, func(e impl.LogEntry) bool { return !goodEntryByWords(e) })
}

func coverByWords(e impl.LogEntry) []byte {
	switch {
	case !goodEntryByWords(e):
		return nil
	case len(e.Cover) > 0:
		return bytes.Clone(e.Cover)
	}
	return macByWords(e.Salt, []byte(e.What))
}

func loggedLeafByWords(e impl.LogEntry) []byte {
	if !goodEntryByWords(e) {
		return nil
	}
	data := binary.LittleEndian.AppendUint64([]byte{0}, uint64(e.Time))
	data = append(data, digestByWords([]byte(e.Who))...)
	return digestByWords(append(data, coverByWords(e)...))
}

func redactByWords(e impl.LogEntry) impl.LogEntry {
	if !goodEntryByWords(e) {
		return impl.LogEntry{}
	}
	e.Cover, e.What, e.Salt = coverByWords(e), "", nil
	return e
}

func jointByWords(first []byte, others []byte) []byte {
	return digestByWords(slices.Concat([]byte{1}, first, others))
}

// loggedTree is what a log comes to; its levels are the leaves, what two and two of them come to, and so on, up to the one root.
type loggedTree struct {
	good   bool
	many   int
	levels [][][]byte
}

func treeByWords(list []impl.LogEntry) loggedTree {
	if !goodLoggedByWords(list) {
		return loggedTree{}
	}
	var leaves [][]byte
	for _, e := range list {
		leaves = append(leaves, loggedLeafByWords(e))
	}
	if leaves == nil {
		leaves = [][]byte{digestByWords(nil)}
	}
	return loggedTree{true, len(list), levelsOver(leaves)}
}

func levelsOver(level [][]byte) [][][]byte {
	if len(level) == 1 {
		return [][][]byte{level}
	}
	var above [][]byte
	for pair := range slices.Chunk(level, 2) {
		if len(pair) == 2 {
			pair = [][]byte{jointByWords(pair[0], pair[1])}
		}
		above = append(above, pair[0])
	}
	return append([][][]byte{level}, levelsOver(above)...)
}

func (l loggedTree) root() []byte {
	if !l.good {
		return nil
	}
	return l.levels[len(l.levels)-1][0]
}

// besideWay are what stands beside the way up from one of the lowest level.
func besideWay(levels [][][]byte, at int) [][]byte {
	var out [][]byte
	for _, level := range levels {
		if other := at ^ 1; other < len(level) {
			out = append(out, level[other])
		}
		at /= 2
	}
	return out
}

func (l loggedTree) path(at int) [][]byte {
	if at < 0 || at >= l.many {
		return nil
	}
	return besideWay(l.levels, at)
}

// bridge begins at the greatest whole tree that ends with the last of the old ones.
func (l loggedTree) bridge(old int) [][]byte {
	if old < 1 || old >= l.many {
		return nil
	}
	height := bits.TrailingZeros(uint(old))
	last, above := old>>height-1, l.levels[height:]
	if last == 0 {
		return besideWay(above, 0)
	}
	return append([][]byte{above[0][last]}, besideWay(above, last)...)
}

func (l loggedTree) signHead(secret int) impl.LogHead {
	if !isBetween(secret, 1, 1073741788) || !l.good {
		return impl.LogHead{}
	}
	return signedHead(secret, impl.LogHead{Size: l.many, Root: l.root()})
}

func allSixteen(parts ...[]byte) bool {
	return !slices.ContainsFunc(parts, func(part []byte) bool { return len(part) != 16 })
}

// climb is where a way up is: at a number of a level, of which the last one has the number last.
type climb struct {
	at   int
	last int
}

// isRight says whether the next one that is told stands ahead of the way.
func (c climb) isRight() bool {
	return c.at%2 == 1 || c.at == c.last
}

// up passes by the levels on which there is nothing beside.
func (c climb) up() climb {
	for c.isRight() && c.at%2 == 0 && c.at > 0 {
		c = climb{c.at / 2, c.last / 2}
	}
	return climb{c.at / 2, c.last / 2}
}

func checkPathByWords(leaf []byte, at int, size int, path [][]byte, root []byte) bool {
	if !isBetween(size, 1, 200) || at < 0 || at >= size || !allSixteen(leaf) || !allSixteen(path...) {
		return false
	}
	way, sum := climb{at, size - 1}, leaf
	for _, aside := range path {
		switch {
		case way.last == 0:
			return false
		case way.isRight():
			sum = jointByWords(aside, sum)
		default:
			sum = jointByWords(sum, aside)
		}
		way = way.up()
	}
	return way.last == 0 && string(sum) == string(root)
}

func checkBridgeByWords(old int, size int, oldRoot []byte, root []byte, bridge [][]byte) bool {
	if !isBetween(size, 1, 200) || !isBetween(old, 1, size) || !allSixteen(oldRoot, root) || !allSixteen(bridge...) {
		return false
	}
	if old == size {
		return len(bridge) == 0 && string(oldRoot) == string(root)
	}
	if bits.OnesCount(uint(old)) == 1 {
		bridge = append([][]byte{oldRoot}, bridge...)
	}
	if len(bridge) == 0 {
		return false
	}
	height := bits.TrailingZeros(uint(old))
	way, older, newer := climb{(old - 1) >> height, (size - 1) >> height}, bridge[0], bridge[0]
	for _, aside := range bridge[1:] {
		switch {
		case way.last == 0:
			return false
		case way.isRight():
			older, newer = jointByWords(aside, older), jointByWords(aside, newer)
		default:
			newer = jointByWords(newer, aside)
		}
		way = way.up()
	}
	return way.last == 0 && string(older) == string(oldRoot) && string(newer) == string(root)
}

func headDataByWords(h impl.LogHead) []byte {
	return append(binary.LittleEndian.AppendUint32(nil, uint32(h.Size)), h.Root...)
}

// signedHead signs whatever the head tells.
func signedHead(secret int, h impl.LogHead) impl.LogHead {
	h.Sig = signByWords(secret, headDataByWords(h))
	return h
}

func checkHeadByWords(public int, h impl.LogHead) bool {
	return isBetween(h.Size, 0, 200) && len(h.Root) == 16 && verifyByWords(public, headDataByWords(h), h.Sig)
}
