package tests

import (
	"regexp"
	"slices"
	"strconv"
	"strings"

	"loop.example/g00036/impl"
)

// What the document says of chapter 4, worked out in other ways than the program's: stamps as numbers in lists, nodes as paths that are rewritten, values by looking back, entries from the root down.

var changeName = regexp.MustCompile(`^[a-zA-Z_][a-zA-Z0-9_]{0,29}$`)
var placeText = regexp.MustCompile(`^[ -}]{1,50}$`)
var valueText = regexp.MustCompile(`^[ -~]{1,200}$`)

func isBetween(num int, least int, most int) bool {
	return num >= least && num <= most
}

func goodChangeByWords(c impl.DirChange) bool {
	if !isBetween(c.Stamp.Time, 1, 1000000000) || !isBetween(c.Stamp.Who, 0, 99) || !isBetween(c.Uid, 1, 1000) {
		return false
	}
	noPlace := c.Up == 0 && c.Part.Attr == "" && c.Part.Text == ""
	noValue := c.Attr == "" && c.Text == ""
	switch c.Kind {
	case 1:
		return noValue && isBetween(c.Up, 0, 1000) && changeName.MatchString(c.Part.Attr) && placeText.MatchString(c.Part.Text)
	case 2, 3:
		return noPlace && changeName.MatchString(c.Attr) && valueText.MatchString(c.Text)
	}
	return c.Kind == 4 && noPlace && noValue
}

// stampNumber takes a good stamp.
func stampNumber(s impl.Stamp) int {
	return s.Time*100 + s.Who
}

func goodLogByWords(log []impl.DirChange) bool {
	last := -1
	for _, c := range log {
		if !goodChangeByWords(c) || stampNumber(c.Stamp) <= last {
			return false
		}
		last = stampNumber(c.Stamp)
	}
	return len(log) <= 200
}

// receiveByWords takes good ones and knows no limit.
func receiveByWords(log []impl.DirChange, more []impl.DirChange) []impl.DirChange {
	log = slices.Clone(log)
	for _, c := range more {
		at := 0
		for at < len(log) && stampNumber(log[at].Stamp) < stampNumber(c.Stamp) {
			at++
		}
		if at == len(log) || log[at].Stamp != c.Stamp {
			log = slices.Insert(log, at, c)
		}
	}
	return log
}

func vectorByWords(log []impl.DirChange) []impl.Stamp {
	var vector []impl.Stamp
	for who := range 100 {
		times := []int{0}
		for _, c := range log {
			if c.Stamp.Who == who {
				times = append(times, c.Stamp.Time)
			}
		}
		if len(times) > 1 {
			vector = append(vector, impl.Stamp{Time: slices.Max(times), Who: who})
		}
	}
	return vector
}

func missingByWords(log []impl.DirChange, vector []impl.Stamp) []impl.DirChange {
	return slices.DeleteFunc(slices.Clone(log), func(c impl.DirChange) bool {
		return slices.ContainsFunc(vector, func(s impl.Stamp) bool { return s.Who == c.Stamp.Who && s.Time >= c.Stamp.Time })
	})
}

func syncByWords(a []impl.DirChange, b []impl.DirChange) ([]impl.DirChange, []impl.DirChange) {
	left := receiveByWords(a, missingByWords(b, vectorByWords(a)))
	right := receiveByWords(b, missingByWords(a, vectorByWords(b)))
	if len(left) > 200 || len(right) > 200 {
		return nil, nil
	}
	return left, right
}

// wordTree has each placed node's way down from the root, such as `/1/4/`, its Part, and the numbers of the changes that placed it first and last (since and back).
type wordTree struct {
	ways  map[int]string
	parts map[int]impl.Part
	since map[int]int
	back  map[int]int
}

// place rewrites the ways of all that are below the node along with its own.
func (w wordTree) place(at int, c impl.DirChange) {
	above, ok := w.ways[c.Up]
	own := "/" + strconv.Itoa(c.Uid) + "/"
	if !ok || strings.Contains(above, own) {
		return
	}
	if old, was := w.ways[c.Uid]; was {
		for uid, way := range w.ways {
			if rest, below := strings.CutPrefix(way, old); below {
				w.ways[uid] = above + own[1:] + rest
			}
		}
	} else {
		w.since[c.Uid] = at
	}
	w.ways[c.Uid], w.parts[c.Uid], w.back[c.Uid] = above+own[1:], c.Part, at
}

func wordTreeOf(log []impl.DirChange) wordTree {
	w := wordTree{ways: map[int]string{0: "/"}, parts: map[int]impl.Part{}, since: map[int]int{}, back: map[int]int{}}
	for at, c := range log {
		if c.Kind == impl.ChangePlace {
			w.place(at, c)
		}
	}
	return w
}

func upByWay(way string) int {
	steps := strings.Split(strings.Trim(way, "/"), "/")
	if len(steps) == 1 {
		return 0
	}
	up, _ := strconv.Atoi(steps[len(steps)-2])
	return up
}

// valuesOfNode asks each value that was put or taken for the last time that this happened.
func valuesOfNode(log []impl.DirChange, uid int) []impl.DirValue {
	last := map[string]int{}
	for _, c := range log {
		if c.Uid == uid && (c.Kind == impl.ChangePut || c.Kind == impl.ChangeTake) {
			last[c.Attr+" "+c.Text] = c.Kind
		}
	}
	var values []impl.DirValue
	for told, kind := range last {
		if kind == impl.ChangePut {
			attr, text, _ := strings.Cut(told, " ")
			values = append(values, impl.DirValue{Attr: attr, Text: text})
		}
	}
	slices.SortFunc(values, func(a, b impl.DirValue) int { return strings.Compare(a.Attr+"\x00"+a.Text, b.Attr+"\x00"+b.Text) })
	return values
}

func droppedByWords(log []impl.DirChange, uid int) bool {
	return slices.ContainsFunc(log, func(c impl.DirChange) bool { return c.Uid == uid && c.Kind == impl.ChangeDrop })
}

func nodesByWords(log []impl.DirChange) []impl.DirNode {
	w := wordTreeOf(log)
	var nodes []impl.DirNode
	for uid := 1; uid <= 1000; uid++ {
		if way, ok := w.ways[uid]; ok {
			nodes = append(nodes, impl.DirNode{
				Uid: uid, Up: upByWay(way), Part: w.parts[uid], Gone: droppedByWords(log[w.back[uid]:], uid), Values: valuesOfNode(log[w.since[uid]:], uid),
			})
		}
	}
	return nodes
}

func attrsByWords(values []impl.DirValue) []impl.Attr {
	var attrs []impl.Attr
	for len(values) > 0 {
		a := impl.Attr{Name: values[0].Attr}
		for len(values) > 0 && values[0].Attr == a.Name {
			a.Values, values = append(a.Values, values[0].Text), values[1:]
		}
		attrs = append(attrs, a)
	}
	return attrs
}

// entriesBelow are the entries of all that is shown below a node, whatever is good of them.
func entriesBelow(nodes []impl.DirNode, up int, name []impl.Part) map[int]impl.Entry {
	told := map[int]impl.Entry{}
	var kids []impl.Part
	for _, n := range nodes {
		if n.Up != up || n.Gone {
			continue
		}
		part := n.Part
		if slices.Contains(kids, n.Part) {
			part.Text += "~" + strconv.Itoa(n.Uid)
		}
		kids = append(kids, n.Part)
		own := slices.Insert(slices.Clone(name), 0, part)
		told[n.Uid] = impl.Entry{Name: own, Attrs: attrsByWords(n.Values)}
		for uid, e := range entriesBelow(nodes, n.Uid, own) {
			told[uid] = e
		}
	}
	return told
}

func entriesByWords(log []impl.DirChange) []impl.Entry {
	told := entriesBelow(nodesByWords(log), 0, nil)
	var entries []impl.Entry
	for uid := 1; uid <= 1000; uid++ {
		e, ok := told[uid]
		tooMany := slices.ContainsFunc(e.Attrs, func(a impl.Attr) bool { return len(a.Values) > 30 })
		if ok && len(e.Name) <= 8 && isBetween(len(e.Attrs), 1, 30) && !tooMany {
			entries = append(entries, e)
		}
	}
	return entries
}

// sameNodes takes the empty list and the nil list as the same.
func sameNodes(a []impl.DirNode, b []impl.DirNode) bool {
	return slices.EqualFunc(a, b, func(n, m impl.DirNode) bool {
		return n.Uid == m.Uid && n.Up == m.Up && n.Part == m.Part && n.Gone == m.Gone && slices.Equal(n.Values, m.Values)
	})
}

func sameEntries(a []impl.Entry, b []impl.Entry) bool {
	return slices.EqualFunc(a, b, func(e, f impl.Entry) bool {
		return slices.Equal(e.Name, f.Name) && slices.EqualFunc(e.Attrs, f.Attrs, func(x, y impl.Attr) bool {
			return x.Name == y.Name && slices.Equal(x.Values, y.Values)
		})
	})
}
