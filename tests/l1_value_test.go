package tests

import (
	"math"
	"slices"
	"strconv"
	"strings"
	"testing"

	"loop.example/g00036/impl"
)

func TestConstantsOfValues(t *testing.T) {
	got := []int{
		impl.MaxText, impl.MaxItems, impl.MaxName, impl.MaxTime,
		impl.BoolAtom, impl.NumAtom, impl.TextAtom, impl.RefAtom, impl.DecAtom, impl.AddrAtom, impl.TimeAtom,
		impl.ValueAtom, impl.ValueSet, impl.ValueRecord,
	}
	want := []int{200, 50, 30, 100000000000, 1, 2, 3, 4, 5, 6, 7, 1, 2, 3}
	if !slices.Equal(got, want) {
		t.Errorf("constants: got %v, want %v", got, want)
	}
}

func TestGoodName(t *testing.T) {
	for _, s := range []string{"a", "Z", "_", "z9", "_9", "A_b_C", "true", "nil", strings.Repeat("a", impl.MaxName)} {
		if !impl.GoodName(s) {
			t.Errorf("GoodName(%q): want true", s)
		}
	}
	for _, s := range []string{"", "9", "9a", "a b", "a-b", "a.b", "a:", " a", "a\n", "é", "aé", "a\x00", "@", "`", "[", "{", "/a", "a/", "a:b", "a@", "a`", "a[", "a{", strings.Repeat("a", impl.MaxName+1)} {
		if impl.GoodName(s) {
			t.Errorf("GoodName(%q): want false", s)
		}
	}
	for c := range 256 {
		letter := c >= 'a' && c <= 'z' || c >= 'A' && c <= 'Z' || c == '_'
		digit := c >= '0' && c <= '9'
		s := string([]byte{byte(c)})
		if impl.GoodName(s) != letter || impl.GoodName("a"+s) != (letter || digit) {
			t.Errorf("GoodName with byte %d", c)
		}
	}
}

func TestGoodAtom(t *testing.T) {
	for _, g := range goodAtoms() {
		if !impl.GoodAtom(g.atom) {
			t.Errorf("GoodAtom(%+v): want true", g.atom)
		}
	}
	for _, a := range badAtoms() {
		if impl.GoodAtom(a) {
			t.Errorf("GoodAtom(%+v): want false", a)
		}
	}
	for c := range 256 {
		printed := c >= 32 && c <= 126
		s := string([]byte{byte(c)})
		if impl.GoodAtom(textAtom(s)) != printed || impl.GoodAtom(refAtom("User", s)) != printed {
			t.Errorf("GoodAtom with byte %d", c)
		}
	}
}

func TestGoodBlocks(t *testing.T) {
	for bits := range 64 {
		for shift := range 34 {
			first := 1 << shift
			want := bits <= 32 && shift <= 31 && shift >= 32-bits
			if impl.GoodAtom(addrAtom(first, bits)) != want {
				t.Errorf("block %d/%d: want %v", first, bits, want)
			}
		}
		if impl.GoodAtom(addrAtom(0, bits)) != (bits <= 32) {
			t.Errorf("block 0/%d", bits)
		}
	}
}

func TestOrderOfAtomsIsOne(t *testing.T) {
	pool := goodAtoms()
	for i, a := range pool {
		for j, b := range pool {
			want := 0
			if i < j {
				want = -1
			} else if i > j {
				want = 1
			}
			if got := impl.CompareAtoms(a.atom, b.atom); got != want {
				t.Errorf("CompareAtoms(%+v, %+v): got %d, want %d", a.atom, b.atom, got, want)
			}
		}
	}
}

func TestOrderOfNoGoodAtoms(t *testing.T) {
	for _, bad := range badAtoms() {
		if got := impl.CompareAtoms(bad, bad); got != -2 {
			t.Errorf("CompareAtoms(%+v, itself): got %d", bad, got)
		}
		for _, g := range goodAtoms() {
			if impl.CompareAtoms(bad, g.atom) != -2 || impl.CompareAtoms(g.atom, bad) != -2 {
				t.Errorf("CompareAtoms of %+v and %+v: want -2", bad, g.atom)
			}
		}
	}
}

func TestAtomsAreReadAsWhatTheyAre(t *testing.T) {
	for _, g := range goodAtoms() {
		if got := impl.AtomText(g.atom); got != g.text {
			t.Errorf("AtomText(%+v): got %s, want %s", g.atom, got, g.text)
		}
		if got, ok := impl.ReadAtom(g.text); !ok || got != g.atom {
			t.Errorf("ReadAtom(%s): got %+v, %v", g.text, got, ok)
		}
	}
	for _, a := range badAtoms() {
		if got := impl.AtomText(a); got != "" {
			t.Errorf("AtomText(%+v): got %s", a, got)
		}
	}
}

func TestTextsOfNoAtom(t *testing.T) {
	for _, s := range badAtomTexts() {
		if got, ok := impl.ReadAtom(s); ok || got != (impl.Atom{}) {
			t.Errorf("ReadAtom(%q): got %+v, %v", s, got, ok)
		}
	}
}

func TestAllBlocksAreReadAsWhatTheyAre(t *testing.T) {
	for bits := 0; bits <= 32; bits++ {
		first := (0xC0A80501 >> (32 - bits)) << (32 - bits)
		text := ""
		for shift := 24; shift >= 0; shift -= 8 {
			text += "." + strconv.Itoa(first>>shift%256)
		}
		text = text[1:] + "/" + strconv.Itoa(bits)
		if got, ok := impl.ReadAtom(text); !ok || got != addrAtom(first, bits) || impl.AtomText(got) != text {
			t.Errorf("ReadAtom(%s): got %+v, %v", text, got, ok)
		}
	}
}

// changed calls f with all texts that are one byte away from s.
func changed(s string, bytes string, f func(string)) {
	for i := range len(s) + 1 {
		if i < len(s) {
			f(s[:i] + s[i+1:])
		}
		for j := range len(bytes) {
			f(s[:i] + bytes[j:j+1] + s[i:])
			if i < len(s) {
				f(s[:i] + bytes[j:j+1] + s[i+1:])
			}
		}
	}
}

func TestNoTextIsReadThatIsNotTold(t *testing.T) {
	check := func(s string) {
		if a, ok := impl.ReadAtom(s); ok && (!impl.GoodAtom(a) || impl.AtomText(a) != s) || !ok && a != (impl.Atom{}) {
			t.Errorf("ReadAtom(%q): got %+v, %v", s, a, ok)
		}
		if v, ok := impl.ReadValue(s); ok && (!impl.GoodValue(v) || impl.ValueText(v) != s) || !ok && !isZero(v) {
			t.Errorf("ReadValue(%q): got %+v, %v", s, v, ok)
		}
	}
	for _, g := range goodAtoms() {
		if len(g.text) < 100 {
			changed(g.text, "0179-+.:/@\\\", []{}aT_\n\x80", check)
		}
	}
	for _, v := range goodValues() {
		if len(v.text) < 100 {
			changed(v.text, "0179-+.:/@\\\", []{}aT_\n\x80", check)
		}
	}
}

func isZero(v impl.Value) bool {
	return v.Kind == 0 && v.Atom == impl.Atom{} && len(v.Items) == 0 && len(v.Names) == 0
}

func sameValue(v impl.Value, w impl.Value) bool {
	return v.Kind == w.Kind && v.Atom == w.Atom && slices.Equal(v.Items, w.Items) && slices.Equal(v.Names, w.Names)
}

// toldValue is a value and the text that the document gives it.
type toldValue struct {
	value impl.Value
	text  string
}

func setValue(items ...impl.Atom) impl.Value {
	return impl.Value{Kind: impl.ValueSet, Items: items}
}

func recordValue(names []string, items ...impl.Atom) impl.Value {
	return impl.Value{Kind: impl.ValueRecord, Names: names, Items: items}
}

// countedNames are names that rise.
func countedNames(many int) []string {
	var names []string
	for i := range many {
		names = append(names, "n"+strconv.Itoa(100+i))
	}
	return names
}

func countedAtoms(many int) []impl.Atom {
	var items []impl.Atom
	for i := range many {
		items = append(items, numAtom(i))
	}
	return items
}

func fullTexts() (string, string) {
	var set, record []string
	for i, name := range countedNames(impl.MaxItems) {
		set = append(set, strconv.Itoa(i))
		record = append(record, name+":"+strconv.Itoa(i))
	}
	return "[" + strings.Join(set, ",") + "]", "{" + strings.Join(record, ",") + "}"
}

func goodValues() []toldValue {
	long := strings.Repeat("n", impl.MaxName)
	set, record := fullTexts()
	values := []toldValue{
		{setValue(), "[]"},
		{setValue(textAtom("")), "[\"\"]"},
		{setValue(boolAtom(1), numAtom(-3), textAtom("]"), decAtom(1)), "[true,-3,\"]\",0.0001]"},
		{setValue(textAtom(","), textAtom(",\"\\"), refAtom("User", "\",")), "[\",\",\",\\\"\\\\\",User::\"\\\",\"]"},
		{setValue(textAtom("[1,2]"), textAtom("{a:1}")), "[\"[1,2]\",\"{a:1}\"]"},
		{setValue(countedAtoms(impl.MaxItems)...), set},
		{recordValue(nil), "{}"},
		{recordValue([]string{"a"}, textAtom("")), "{a:\"\"}"},
		{recordValue([]string{"A", "Z", "_", "a", "aa", "b"}, numAtom(2), numAtom(2), numAtom(1), timeAtom(-1), boolAtom(0), addrAtom(0, 0)), "{A:2,Z:2,_:1,a:@-1,aa:false,b:0.0.0.0/0}"},
		{recordValue([]string{"age", "zone"}, numAtom(3), textAtom("a,b:}c")), "{age:3,zone:\"a,b:}c\"}"},
		{recordValue([]string{"a", "true"}, refAtom("User", "a::b\"}"), refAtom("User", ",x:1")), "{a:User::\"a::b\\\"}\",true:User::\",x:1\"}"},
		{recordValue([]string{long}, textAtom("{}")), "{" + long + ":\"{}\"}"},
		{recordValue(countedNames(impl.MaxItems), countedAtoms(impl.MaxItems)...), record},
	}
	for _, g := range goodAtoms() {
		values = append(values, toldValue{atomValue(g.atom), g.text})
		values = append(values, toldValue{setValue(g.atom), "[" + g.text + "]"})
		values = append(values, toldValue{recordValue([]string{"a", "b"}, g.atom, g.atom), "{a:" + g.text + ",b:" + g.text + "}"})
	}
	return values
}

func badValues() []impl.Value {
	one := []impl.Atom{numAtom(1)}
	two := []impl.Atom{numAtom(1), numAtom(2)}
	bad := []impl.Value{
		{},
		{Kind: 4, Atom: numAtom(1)},
		{Kind: -1},
		{Kind: math.MaxInt, Items: one},
		{Kind: impl.ValueAtom},
		{Kind: impl.ValueAtom, Atom: numAtom(1), Items: one},
		{Kind: impl.ValueAtom, Atom: numAtom(1), Names: []string{"a"}},
		{Kind: impl.ValueAtom, Items: one},
		{Kind: impl.ValueSet, Atom: numAtom(1)},
		{Kind: impl.ValueSet, Atom: impl.Atom{Text: "a"}, Items: one},
		{Kind: impl.ValueSet, Items: one, Names: []string{"a"}},
		{Kind: impl.ValueSet, Names: []string{""}},
		setValue(numAtom(1), numAtom(1)),
		setValue(numAtom(2), numAtom(1)),
		setValue(numAtom(1), boolAtom(1)),
		setValue(numAtom(1), numAtom(3), numAtom(2)),
		setValue(countedAtoms(impl.MaxItems + 1)...),
		{Kind: impl.ValueRecord, Atom: numAtom(1)},
		{Kind: impl.ValueRecord, Atom: impl.Atom{Num: 1}, Items: one, Names: []string{"a"}},
		recordValue([]string{"a"}),
		recordValue(nil, one...),
		recordValue([]string{"a"}, two...),
		recordValue([]string{"a", "b", "c"}, two...),
		recordValue([]string{"b", "a"}, two...),
		recordValue([]string{"a", "a"}, two...),
		recordValue([]string{"a", "A"}, two...),
		recordValue([]string{"aa", "a"}, two...),
		recordValue([]string{"", "a"}, two...),
		recordValue([]string{"1a", "a"}, two...),
		recordValue([]string{"a", "a b"}, two...),
		recordValue([]string{strings.Repeat("n", impl.MaxName+1)}, one...),
		recordValue(countedNames(impl.MaxItems+1), countedAtoms(impl.MaxItems+1)...),
	}
	for _, a := range badAtoms() {
		bad = append(bad, atomValue(a), setValue(a), setValue(boolAtom(0), a), recordValue([]string{"a"}, a), recordValue([]string{"a", "b"}, numAtom(1), a))
	}
	return bad
}

func badValueTexts() []string {
	set, record := fullTexts()
	list := []string{
		"", "[", "]", "{", "}", "[}", "{]", "[]]", "[[]", "[] ", " []", "{}}", "{{}", "{} ",
		"[1", "1]", "[1}", "{a:1", "{a:1]", "a:1", "[1]x", "{a:1}x",
		"[,]", "[1,]", "[,1]", "[1,,2]", "[1, 2]", "[ 1]", "[1 ]", "[1,1]", "[2,1]", "[1,true]", "[\"b\",\"a\"]", "[[1]]", "[{a:1}]", "[a:1]",
		"{,}", "{a:1,}", "{,a:1}", "{a:1,,b:2}", "{a:1, b:2}", "{ a:1}", "{a :1}", "{a: 1}", "{a:}", "{:1}", "{a}", "{a,b}", "{1}",
		"{b:1,a:2}", "{a:1,a:1}", "{a:1,a:2}", "{zone:1,age:2}", "{aa:1,a:2}", "{a:1,B:2}", "{a:1,b:2,ab:3}",
		"{1a:1}", "{a-b:1}", "{\"a\":1}", "{a::1}", "{a:[1]}", "{a:{b:1}}", "{a:User:\"x\"}", "{a:1;b:2}",
		"[\"a,\"b\"]", "[\"a\\\",\"b\"]", "[\"a]", "[\"a\\\"]", "{a:\"b}", "{a:\"b\\\"}", "[10.0.0.1/8]", "{a:-0}",
		"{" + strings.Repeat("n", impl.MaxName+1) + ":1}",
		set[:len(set)-1] + ",50]",
		record[:len(record)-1] + ",n150:50}",
	}
	for _, s := range badAtomTexts() {
		if s != "" && !strings.ContainsAny(s, "[{") {
			list = append(list, s, "["+s+"]", "{a:"+s+"}", "{a:1,b:"+s+"}")
		}
	}
	return list
}

func TestValuesAreReadAsWhatTheyAre(t *testing.T) {
	for _, v := range goodValues() {
		if !impl.GoodValue(v.value) {
			t.Errorf("GoodValue(%+v): want true", v.value)
		}
		if got := impl.ValueText(v.value); got != v.text {
			t.Errorf("ValueText(%+v): got %s, want %s", v.value, got, v.text)
		}
		if got, ok := impl.ReadValue(v.text); !ok || !sameValue(got, v.value) {
			t.Errorf("ReadValue(%s): got %+v, %v", v.text, got, ok)
		}
	}
	for _, v := range badValues() {
		if impl.GoodValue(v) || impl.ValueText(v) != "" {
			t.Errorf("%+v: want no good value and no text", v)
		}
	}
}

func TestTextsOfNoValue(t *testing.T) {
	for _, s := range badValueTexts() {
		if got, ok := impl.ReadValue(s); ok || !isZero(got) {
			t.Errorf("ReadValue(%q): got %+v, %v", s, got, ok)
		}
	}
}

func TestEmptyListIsTheNilList(t *testing.T) {
	for _, kind := range []int{impl.ValueSet, impl.ValueRecord} {
		v := impl.Value{Kind: kind, Items: []impl.Atom{}, Names: []string{}}
		if !impl.GoodValue(v) || impl.ValueText(v) != impl.ValueText(impl.Value{Kind: kind}) {
			t.Errorf("kind %d with empty lists", kind)
		}
	}
	v := impl.Value{Kind: impl.ValueAtom, Atom: numAtom(1), Items: []impl.Atom{}, Names: []string{}}
	if !impl.GoodValue(v) || impl.ValueText(v) != "1" {
		t.Error("an atom with empty lists")
	}
	if !sameValue(impl.SetOf(nil), setValue()) || !sameValue(impl.SetOf([]impl.Atom{}), setValue()) {
		t.Error("SetOf of nothing")
	}
}

func TestSetHangsOnNoOrder(t *testing.T) {
	var rising []impl.Atom
	for _, g := range goodAtoms()[:impl.MaxItems] {
		rising = append(rising, g.atom)
	}
	want := setValue(rising...)
	state := uint32(7)
	for range 200 {
		list := slices.Clone(rising)
		for i := range list {
			state = state*1664525 + 1013904223
			j := int(state>>8) % len(list)
			list[i], list[j] = list[j], list[i]
			list = append(list, list[(i+j)%len(rising)])
		}
		if got := impl.SetOf(list); !sameValue(got, want) || !impl.GoodValue(got) {
			t.Fatalf("SetOf: got %+v", got)
		}
	}
}

func TestAllOrdersOfASmallSet(t *testing.T) {
	items := []impl.Atom{boolAtom(1), numAtom(-3), numAtom(3), textAtom("a"), refAtom("A", "a"), timeAtom(0)}
	want := setValue(slices.Clone(items)...)
	var turn func(k int)
	turn = func(k int) {
		if k == 0 {
			if got := impl.SetOf(items); !sameValue(got, want) {
				t.Fatalf("SetOf(%+v): got %+v", items, got)
			}
			return
		}
		for i := range k {
			items[i], items[k-1] = items[k-1], items[i]
			turn(k - 1)
			items[i], items[k-1] = items[k-1], items[i]
		}
	}
	turn(len(items))
}

func TestLimitsOfSetOf(t *testing.T) {
	many := func(told int, unlike int) []impl.Atom {
		var list []impl.Atom
		for i := range told {
			list = append(list, numAtom(i%unlike))
		}
		return list
	}
	full := setValue(countedAtoms(impl.MaxItems)...)
	for _, told := range []int{50, 51, 999, 1000} {
		if got := impl.SetOf(many(told, 50)); !sameValue(got, full) {
			t.Errorf("SetOf of %d, 50 of them unlike: got %+v", told, got)
		}
	}
	for _, list := range [][]impl.Atom{many(51, 51), many(1000, 51), many(1001, 50), many(1001, 1), many(5000, 5000)} {
		if got := impl.SetOf(list); !isZero(got) {
			t.Errorf("SetOf of %d: got %+v", len(list), got)
		}
	}
	for _, bad := range badAtoms() {
		for _, list := range [][]impl.Atom{{bad}, {bad, bad}, {numAtom(1), bad}, {bad, numAtom(1)}} {
			if got := impl.SetOf(list); !isZero(got) {
				t.Errorf("SetOf(%+v): got %+v", list, got)
			}
		}
	}
}

func TestAddrInByAddresses(t *testing.T) {
	firsts := []int{0, 1, 2, 3, 4, 8, 10 << 24, 10<<24 + 1<<16, 11 << 24, 1 << 31, 3 << 30, 1<<32 - 4, 1<<32 - 2, 1<<32 - 1}
	var blocks [][2]int
	for _, first := range firsts {
		for bits := 0; bits <= 32; bits++ {
			if first%(1<<(32-bits)) == 0 {
				blocks = append(blocks, [2]int{first, bits})
			}
		}
	}
	for _, a := range blocks {
		for _, b := range blocks {
			lastA, lastB := a[0]+1<<(32-a[1])-1, b[0]+1<<(32-b[1])-1
			want := a[0] >= b[0] && lastA <= lastB
			if got := impl.AddrIn(addrAtom(a[0], a[1]), addrAtom(b[0], b[1])); got != want {
				t.Errorf("AddrIn(%v, %v): got %v", a, b, got)
			}
		}
	}
}

func TestAddrInOfOthers(t *testing.T) {
	all := addrAtom(0, 0)
	for _, g := range goodAtoms() {
		if g.atom.Kind != impl.AddrAtom && (impl.AddrIn(g.atom, all) || impl.AddrIn(all, g.atom) || impl.AddrIn(g.atom, g.atom)) {
			t.Errorf("AddrIn with %+v", g.atom)
		}
	}
	for _, a := range badAtoms() {
		if impl.AddrIn(a, all) || impl.AddrIn(all, a) || impl.AddrIn(a, a) {
			t.Errorf("AddrIn with %+v", a)
		}
	}
}

// goodPattern and likeByWords tell the document's words once more, without care for how long it takes.
func goodPattern(pattern string) bool {
	switch {
	case pattern == "":
		return true
	case pattern[0] != '\\':
		return goodPattern(pattern[1:])
	case len(pattern) > 1 && (pattern[1] == '*' || pattern[1] == '\\'):
		return goodPattern(pattern[2:])
	}
	return false
}

func likeByWords(text string, pattern string) bool {
	if pattern == "" {
		return text == ""
	}
	if pattern[0] == '*' {
		return likeByWords(text, pattern[1:]) || text != "" && likeByWords(text[1:], pattern)
	}
	if pattern[0] == '\\' {
		pattern = pattern[1:]
	}
	return text != "" && text[0] == pattern[0] && likeByWords(text[1:], pattern[1:])
}

// textsOver are all texts of at most so many of the letters.
func textsOver(letters string, most int) []string {
	list := []string{""}
	for i := 0; i < len(list); i++ {
		if len(list[i]) < most {
			for j := range len(letters) {
				list = append(list, list[i]+letters[j:j+1])
			}
		}
	}
	return list
}

func TestLikeByWords(t *testing.T) {
	texts := textsOver("ab*\\", 4)
	for _, pattern := range textsOver("ab*\\", 5) {
		good := goodPattern(pattern)
		for _, text := range texts {
			want := good && likeByWords(text, pattern)
			if got := impl.Like(text, pattern); got != want {
				t.Fatalf("Like(%q, %q): got %v", text, pattern, got)
			}
		}
	}
}

func TestLikeAtItsEdges(t *testing.T) {
	full := strings.Repeat("a", impl.MaxText)
	for _, c := range []struct {
		text, pattern string
		want          bool
	}{
		{full, full, true},
		{full, "*", true},
		{full, strings.Repeat("*", impl.MaxText), true},
		{full, strings.Repeat("*a", impl.MaxText/2), true},
		{full, strings.Repeat("*a", impl.MaxText/2-1) + "*b", false},
		{strings.Repeat("*", impl.MaxText/2), strings.Repeat("\\*", impl.MaxText/2), true},
		{full + "a", "*", false},
		{full + "a", full + "a", false},
		{"", strings.Repeat("*", impl.MaxText+1), false},
		{full, full + "*", false},
		{"", "", true},
		{"a", "", false},
		{"a", "a\\", false},
		{"", "\\", false},
		{"\\", "\\", false},
		{"\\", "\\\\", true},
		{"a", "*\\", false},
		{"", "*\\a", false},
		{"ba", "a\\b", false},
		{"*", "\\*", true},
		{"x", "\\*", false},
		{"A", "a", false},
		{"a.c", "a?c", false},
		{"\x00\xff\n", "\x00*\n", true},
		{"é", "*\xa9", true},
		{"", "\x00", false},
		{"aab", "*ab", true},
		{"abcbcd", "a*bcd", true},
		{"abcbce", "a*bcd", false},
		{"mississippi", "m*is*ip*", true},
		{"mississippi", "m*ss*ss*ss*", false},
	} {
		if got := impl.Like(c.text, c.pattern); got != c.want {
			t.Errorf("Like(%q, %q): got %v", c.text, c.pattern, got)
		}
	}
}
