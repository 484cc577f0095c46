package tests

import (
	"math"
	"math/rand"
	"slices"
	"strings"

	"loop.example/g00036/impl"
)

func stampOf(time int, who int) impl.Stamp {
	return impl.Stamp{Time: time, Who: who}
}

// placed has the Attr `cn` in its Part, as most places of the tests do.
func placed(time int, who int, uid int, up int, text string) impl.DirChange {
	return impl.DirChange{Stamp: stampOf(time, who), Kind: impl.ChangePlace, Uid: uid, Up: up, Part: impl.Part{Attr: "cn", Text: text}}
}

func put(time int, who int, uid int, attr string, text string) impl.DirChange {
	return impl.DirChange{Stamp: stampOf(time, who), Kind: impl.ChangePut, Uid: uid, Attr: attr, Text: text}
}

func taken(time int, who int, uid int, attr string, text string) impl.DirChange {
	return impl.DirChange{Stamp: stampOf(time, who), Kind: impl.ChangeTake, Uid: uid, Attr: attr, Text: text}
}

func dropped(time int, who int, uid int) impl.DirChange {
	return impl.DirChange{Stamp: stampOf(time, who), Kind: impl.ChangeDrop, Uid: uid}
}

// timed are the changes with stamps that rise from Time 1 on, by one Who.
func timed(list ...impl.DirChange) []impl.DirChange {
	list = slices.Clone(list)
	for i := range list {
		list[i].Stamp = stampOf(i+1, 0)
	}
	return list
}

func logOf(list ...impl.DirChange) []impl.DirChange {
	return list
}

// countedDrops are so many changes with Times from first on.
func countedDrops(first int, many int) []impl.DirChange {
	var list []impl.DirChange
	for i := range many {
		list = append(list, dropped(first+i, 7, 1+i%impl.MaxUid))
	}
	return list
}

// countedVector has the Whos from first on, each with that Time.
func countedVector(first int, many int, time int) []impl.Stamp {
	var list []impl.Stamp
	for i := range many {
		list = append(list, stampOf(time, first+i))
	}
	return list
}

// oneOfEach has a change of each kind.
func oneOfEach() []impl.DirChange {
	return logOf(placed(10, 1, 3, 2, "a"), put(10, 2, 3, "mail", "a@b"), taken(11, 0, 4, "mail", "x"), dropped(12, 5, 5))
}

// goodChanges meet the limits of a change, each alone and all together.
func goodChanges() []impl.DirChange {
	long := strings.Repeat("N", 30)
	all := oneOfEach()
	for _, time := range []int{1, 2, 999999999, 1000000000} {
		for _, who := range []int{0, 1, 98, 99} {
			all = append(all, placed(time, who, 7, 0, "a"), put(time, who, 7, "a", "b"), taken(time, who, 7, "a", "b"), dropped(time, who, 7))
		}
	}
	for _, uid := range []int{1, 2, 999, 1000} {
		all = append(all, placed(1, 0, uid, 0, "a"), put(1, 0, uid, "a", "b"), taken(1, 0, uid, "a", "b"), dropped(1, 0, uid))
	}
	for _, up := range []int{0, 1, 7, 999, 1000} {
		all = append(all, placed(1, 0, 7, up, "a"))
	}
	for _, text := range []string{" ", "}", ",", "\\", "=", "a,b=c\\", strings.Repeat("x", 49), strings.Repeat("x", 50), printedBytes()[:50], printedBytes()[50:94]} {
		all = append(all, placed(1, 0, 7, 0, text))
	}
	for _, text := range []string{" ", "~", "~3", "a~3", printedBytes(), strings.Repeat("x", impl.MaxText-1), strings.Repeat("x", impl.MaxText)} {
		all = append(all, put(1, 0, 7, "a", text), taken(1, 0, 7, "a", text))
	}
	for _, attr := range []string{"_", "Z", "z9", long[1:], long} {
		c := placed(1, 0, 7, 0, "a")
		c.Part.Attr = attr
		all = append(all, c, put(1, 0, 7, attr, "a"), taken(1, 0, 7, attr, "a"))
	}
	full := placed(1000000000, 99, 1000, 1000, strings.Repeat("}", 50))
	full.Part.Attr = long
	return append(all, full, put(1000000000, 99, 1000, long, strings.Repeat("~", impl.MaxText)))
}

// spoiled is each of the changes with the same thing done to it.
func spoiled(list []impl.DirChange, spoil func(c *impl.DirChange)) []impl.DirChange {
	list = slices.Clone(list)
	for i := range list {
		spoil(&list[i])
	}
	return list
}

// badNumbers are changes that one number makes not good.
func badNumbers() []impl.DirChange {
	each := oneOfEach()
	var bad []impl.DirChange
	for _, time := range []int{0, -1, 1000000001, math.MinInt, math.MaxInt} {
		bad = append(bad, spoiled(each, func(c *impl.DirChange) { c.Stamp.Time = time })...)
	}
	for _, who := range []int{-1, 100, 101, math.MinInt, math.MaxInt} {
		bad = append(bad, spoiled(each, func(c *impl.DirChange) { c.Stamp.Who = who })...)
	}
	for _, uid := range []int{0, -1, 1001, math.MinInt, math.MaxInt} {
		bad = append(bad, spoiled(each, func(c *impl.DirChange) { c.Uid = uid })...)
	}
	for _, kind := range []int{0, -1, 5, 6, math.MinInt, math.MaxInt} {
		bad = append(bad, spoiled(each, func(c *impl.DirChange) { c.Kind = kind })...)
		bad = append(bad, impl.DirChange{Stamp: stampOf(1, 1), Kind: kind, Uid: 1})
	}
	for _, up := range []int{-1, 1001, math.MinInt, math.MaxInt} {
		bad = append(bad, placed(1, 0, 7, up, "a"))
	}
	for _, up := range []int{1, 7, 1000, -1, math.MinInt, math.MaxInt} {
		bad = append(bad, spoiled(each[1:], func(c *impl.DirChange) { c.Up = up })...)
	}
	return bad
}

// badChanges are good but for one field, or have nothing at all.
func badChanges() []impl.DirChange {
	each := oneOfEach()
	bad := append(badNumbers(), impl.DirChange{})
	for _, name := range []string{"", "9", "c n", "c~", "cn\x00", "\xff", "é", strings.Repeat("c", 31), strings.Repeat("c", 3000)} {
		bad = append(bad, spoiled(each[:1], func(c *impl.DirChange) { c.Part.Attr = name })...)
		bad = append(bad, spoiled(each[1:3], func(c *impl.DirChange) { c.Attr = name })...)
	}
	for _, text := range []string{"", "~", "a~", "~a", "a~3", "a\n", "\x1f", "\x7f", "\x00", "é", strings.Repeat("x", 49) + "~", strings.Repeat("x", 51), strings.Repeat("x", 61), strings.Repeat("x", 3000)} {
		bad = append(bad, spoiled(each[:1], func(c *impl.DirChange) { c.Part.Text = text })...)
	}
	for _, text := range []string{"", "a\n", "\x1f", "\x7f", "\x00", "é", strings.Repeat("x", impl.MaxText+1), strings.Repeat("x", 3000)} {
		bad = append(bad, spoiled(each[1:3], func(c *impl.DirChange) { c.Text = text })...)
	}
	for _, text := range []string{"a", " ", "\x00"} {
		bad = append(bad, spoiled(each[1:], func(c *impl.DirChange) { c.Part.Attr = text })...)
		bad = append(bad, spoiled(each[1:], func(c *impl.DirChange) { c.Part.Text = text })...)
		bad = append(bad, spoiled(logOf(each[0], each[3]), func(c *impl.DirChange) { c.Attr = text })...)
		bad = append(bad, spoiled(logOf(each[0], each[3]), func(c *impl.DirChange) { c.Text = text })...)
	}
	return bad
}

// staffLog is a directory with a moved node, a node that is gone and came back, values put and taken, and a clash.
func staffLog() []impl.DirChange {
	return timed(
		placed(0, 0, 1, 0, "org"), put(0, 0, 1, "class", "Top"), placed(0, 0, 2, 1, "Ann"), put(0, 0, 2, "cn", "Ann"), put(0, 0, 2, "age", "7"),
		placed(0, 0, 3, 1, "Ann"), put(0, 0, 3, "cn", "ann"), placed(0, 0, 4, 2, "Desk"), put(0, 0, 4, "cn", "Desk"), taken(0, 0, 2, "age", "7"),
		dropped(0, 0, 2), placed(0, 0, 1, 4, "org"), placed(0, 0, 4, 3, "Desk"), placed(0, 0, 2, 1, "Ann"), put(0, 0, 2, "cn", "Annie"),
	)
}

func goodLogs() [][]impl.DirChange {
	var each [][]impl.DirChange
	for _, c := range goodChanges() {
		each = append(each, logOf(c))
	}
	wide := spoiled(countedDrops(1, 100), func(c *impl.DirChange) { c.Stamp = stampOf(1, c.Stamp.Time-1) })
	return append(each,
		nil,
		logOf(),
		oneOfEach(),
		staffLog(),
		wide,
		countedDrops(1, impl.MaxLog),
		countedDrops(1000000001-impl.MaxLog, impl.MaxLog),
		logOf(dropped(1, 99, 1), dropped(2, 0, 1), dropped(2, 1, 1), dropped(2, 99, 1), dropped(1000000000, 0, 1)),
	)
}

func badLogs() [][]impl.DirChange {
	bad := [][]impl.DirChange{
		countedDrops(1, impl.MaxLog+1),
		countedDrops(1, 3000),
		make([]impl.DirChange, 1),
		make([]impl.DirChange, 3000),
		logOf(dropped(1, 1, 1), dropped(1, 1, 1)),
		logOf(dropped(1, 1, 1), dropped(1, 1, 2)),
		logOf(dropped(1, 1, 1), dropped(1, 0, 1)),
		logOf(dropped(2, 0, 1), dropped(1, 1, 1)),
		logOf(dropped(2, 0, 1), dropped(1, 0, 1)),
		logOf(dropped(1, 0, 1), dropped(2, 0, 1), dropped(2, 0, 1)),
		logOf(dropped(1, 0, 1), dropped(3, 0, 1), dropped(2, 0, 1)),
		append(countedDrops(2, impl.MaxLog-1), dropped(1, 0, 1)),
		append(countedDrops(2, impl.MaxLog-1), dropped(impl.MaxLog, 7, 1)),
	}
	for _, c := range badChanges() {
		bad = append(bad, logOf(c), logOf(dropped(1, 0, 1), c), logOf(c, dropped(1000000000, 99, 1)))
	}
	return append(bad, append(countedDrops(1, impl.MaxLog-1), dropped(500, 0, impl.MaxUid+1)))
}

// goodVectors need no good stamps.
func goodVectors() [][]impl.Stamp {
	return [][]impl.Stamp{
		nil,
		{},
		{{}},
		{stampOf(10, 1)},
		{stampOf(9, 1), stampOf(10, 2), stampOf(12, 5)},
		{stampOf(12, 0), stampOf(1, 99)},
		{stampOf(math.MinInt, 0), stampOf(math.MaxInt, 1), stampOf(0, 2), stampOf(-1, 7)},
		{stampOf(math.MaxInt, math.MinInt), stampOf(11, 0), stampOf(100, 7), stampOf(math.MaxInt, math.MaxInt)},
		countedVector(0, 100, 1),
		countedVector(-50, 100, 11),
		countedVector(math.MaxInt-99, 100, 11),
	}
}

func badVectors() [][]impl.Stamp {
	return [][]impl.Stamp{
		countedVector(0, 101, 1),
		countedVector(0, 3000, 1),
		make([]impl.Stamp, 2),
		make([]impl.Stamp, 3000),
		{stampOf(1, 1), stampOf(1, 1)},
		{stampOf(1, 1), stampOf(2, 1)},
		{stampOf(2, 1), stampOf(1, 1)},
		{stampOf(1, 1), stampOf(2, 0)},
		{stampOf(1, 0), stampOf(1, 2), stampOf(1, 1)},
		{stampOf(1, 0), stampOf(2, 2), stampOf(3, 2)},
		{stampOf(1, math.MaxInt), stampOf(1, math.MinInt)},
		append(countedVector(1, 99, 1), stampOf(1, 99)),
		append(countedVector(1, 99, 1), stampOf(1, 0)),
	}
}

// drawnChange has few Uids, Parts and values, so that changes meet.
func drawnChange(from *rand.Rand) impl.DirChange {
	texts := []string{"a", "b", "a,b"}
	c := impl.DirChange{Stamp: stampOf(1+from.Intn(90), from.Intn(4)), Uid: 1 + from.Intn(7)}
	switch from.Intn(8) {
	case 0, 1, 2:
		c.Kind, c.Up = impl.ChangePlace, from.Intn(8)
		c.Part = impl.Part{Attr: oneOf(from, []string{"cn", "ou"}), Text: oneOf(from, texts)}
	case 3, 4, 5:
		c.Kind, c.Attr, c.Text = impl.ChangePut, oneOf(from, []string{"cn", "x", "y"}), oneOf(from, texts)
	case 6:
		c.Kind, c.Attr, c.Text = impl.ChangeTake, oneOf(from, []string{"cn", "x", "y"}), oneOf(from, texts)
	case 7:
		c.Kind = impl.ChangeDrop
	}
	return c
}

// drawnChanges have no two stamps alike, and rise by them.
func drawnChanges(from *rand.Rand, many int) []impl.DirChange {
	var list []impl.DirChange
	for range many {
		list = receiveByWords(list, logOf(drawnChange(from)))
	}
	return list
}
