package tests

import (
	"bytes"
	"maps"
	"math"
	"math/rand"
	"slices"
	"strconv"
	"strings"

	"loop.example/g00036/impl"
)

const lastTime = 100000000000

func keyOf(id string, secret int, from int, until int) impl.Key {
	return impl.Key{Id: id, Public: impl.PublicOf(secret), From: from, Until: until}
}

// countedKeys are keys whose ids rise, the one of number i with the secret i + 1.
func countedKeys(many int) []impl.Key {
	var ring []impl.Key
	for i := range many {
		ring = append(ring, keyOf("k"+strconv.Itoa(100+i), i+1, i, 50+i))
	}
	return ring
}

func goodKeys() []impl.Key {
	good := []impl.Key{
		keyOf("k1", 9, 0, 60), keyOf("k1", 1, 0, 0), keyOf("k1", impl.Order-1, lastTime, lastTime), keyOf("k1", 9, 0, lastTime), keyOf("k1", 9, 7, 7), keyOf("k1", 9, lastTime-1, lastTime),
		// The least and the greatest number that is a square, and the one that Base is.
		{Id: "k1", Public: 3, Until: 1}, {Id: "k1", Public: 4, Until: 1}, {Id: "k1", Public: impl.Prime - 2, Until: 1},
	}
	for _, id := range []string{"a", "Z", "0", "9", "_", "-", ".", "..", "a.b-c_D9", longId("k"), longId("-")} {
		good = append(good, keyOf(id, 9, 1, 2))
	}
	return good
}

func badKeys() []impl.Key {
	bad := []impl.Key{{}, {Id: "k1"}, {Public: 4}}
	for _, id := range badIds() {
		bad = append(bad, keyOf(id, 9, 0, 60))
	}
	// Of these numbers Verify takes none for a right signature; 2 and the last one are within its bounds.
	for _, public := range append(badPublics(), 2, impl.Prime-1, impl.Prime+3, 1<<32+4) {
		bad = append(bad, impl.Key{Id: "k1", Public: public, Until: 60})
	}
	for _, times := range [][2]int{{-1, 60}, {math.MinInt, 60}, {-1, -1}, {61, 60}, {1, 0}, {0, -1}, {0, math.MinInt}, {0, lastTime + 1}, {lastTime + 1, lastTime + 1}, {lastTime, lastTime + 1}, {lastTime, lastTime - 1}, {lastTime + 1, lastTime}, {lastTime + 1, 60}, {0, math.MaxInt}, {math.MaxInt, math.MaxInt}, {math.MaxInt, math.MinInt}, {math.MinInt, math.MaxInt}} {
		bad = append(bad, keyOf("k1", 9, times[0], times[1]))
	}
	return bad
}

func goodRings() [][]impl.Key {
	good := [][]impl.Key{nil, {}, countedKeys(2), countedKeys(9), countedKeys(10)}
	for _, k := range goodKeys() {
		good = append(good, []impl.Key{k})
	}
	ids := []string{"-", ".", "0", "1", "10", "A", "B", "_", "a", "aa"}
	all := countedKeys(10)
	for i, id := range ids {
		all[i].Id = id
	}
	same := countedKeys(3)
	same[0].Public, same[2].Public = same[1].Public, same[1].Public
	return append(good, all, same)
}

func badRings() [][]impl.Key {
	twice := append(countedKeys(3), countedKeys(3)...)
	bad := [][]impl.Key{
		countedKeys(11), countedKeys(5000), make([]impl.Key, 10), make([]impl.Key, 11), twice, twice[2:4], {keyOf("b", 1, 0, 9), keyOf("a", 2, 0, 9)}, {keyOf("a", 1, 0, 9), keyOf("a", 2, 0, 9)}, {keyOf("a", 1, 0, 9), keyOf("a", 1, 0, 9)},
		{keyOf("a", 1, 0, 9), keyOf("A", 2, 0, 9)}, {keyOf("2", 1, 0, 9), keyOf("10", 2, 0, 9)}, {keyOf("a", 1, 0, 9), keyOf("c", 2, 0, 9), keyOf("b", 3, 0, 9)}, {keyOf("ab", 1, 0, 9), keyOf("a", 1, 0, 9)},
	}
	for i, k := range badKeys() {
		ring := countedKeys(3)
		if idForm.MatchString(k.Id) {
			k.Id = ring[i%3].Id
		}
		ring[i%3] = k
		bad = append(bad, []impl.Key{k}, ring)
	}
	return bad
}

// claimsOfLength are good claims whose text has so many bytes, at least some 220.
func claimsOfLength(length int) impl.Value {
	text := `{aud:"api",exp:@50`
	for i := 100; length-len(text) > 400; i++ {
		text += ",n" + strconv.Itoa(i) + ":\"" + strings.Repeat("x", 190) + "\""
	}
	half := (length - len(text) - len(`,o:"",p:""}`)) / 2
	text += `,o:"` + strings.Repeat("y", half) + `",p:"`
	text += strings.Repeat("z", length-len(text)-2) + `"}`
	return valueOf(text)
}

// tokenCase is a token, and all that it is opened with; spoil makes another text of it.
type tokenCase struct {
	secret int
	kid    string
	claims map[string]string
	ring   []impl.Key
	aud    string
	time   int
	spoil  func(text string) string
}

// plainTokenCase is one that is opened.
func plainTokenCase() tokenCase {
	return tokenCase{
		secret: 4711,
		kid:    "k1",
		claims: map[string]string{"aud": `"api"`, "exp": "@50", "nbf": "@10", "sub": `"ann"`},
		ring:   []impl.Key{keyOf("k0", 8, 0, 60), keyOf("k1", 4711, 5, 60), keyOf("k2", 7, 0, 60)},
		aud:    "api",
		time:   20,
		spoil:  func(text string) string { return text },
	}
}

func (c tokenCase) claimsText() string {
	var items []string
	for _, name := range slices.Sorted(maps.Keys(c.claims)) {
		items = append(items, name+":"+c.claims[name])
	}
	return "{" + strings.Join(items, ",") + "}"
}

func (c tokenCase) text() string {
	return c.spoil(signedAnyhow(c.secret, c.kid, c.claimsText()))
}

// tokenFaults are, for each number that OpenToken tells, ways to come to it: of these any may be done together.
func tokenFaults() [8][]func(c *tokenCase) {
	return [8][]func(c *tokenCase){
		1: {
			func(c *tokenCase) { slices.Reverse(c.ring) },
			func(c *tokenCase) { c.ring = append(c.ring, keyOf("k3", 0, 0, 60)) },
			func(c *tokenCase) { c.ring = append(c.ring, c.ring...) },
			func(c *tokenCase) { c.ring = changedKeys(c.ring, "k0", 61, 60) },
			func(c *tokenCase) { c.time = -1 },
			func(c *tokenCase) { c.time = lastTime + 1 },
			func(c *tokenCase) {
				c.spoil = func(text string) string { return text + strings.Repeat("0", 10001-len(text)) }
			},
		},
		2: {
			func(c *tokenCase) { c.spoil = func(text string) string { return text + "0" } },
			func(c *tokenCase) { c.spoil = func(text string) string { return text[1:] } },
			func(c *tokenCase) { c.spoil = func(text string) string { return text + "~" } },
			func(c *tokenCase) { c.spoil = func(text string) string { return "v2" + text[2:] } },
			func(c *tokenCase) { c.spoil = func(text string) string { return text[:strings.LastIndex(text, "~")] } },
			func(c *tokenCase) { c.spoil = func(text string) string { return "" } },
			func(c *tokenCase) { c.spoil = func(text string) string { return strings.ToUpper(text) } },
			func(c *tokenCase) { c.claims["note"] = "01" },
		},
		3: {
			func(c *tokenCase) { c.kid = "k3" },
			func(c *tokenCase) { c.kid = "K1" },
			func(c *tokenCase) { c.kid = "k" },
			func(c *tokenCase) {
				c.ring = slices.DeleteFunc(slices.Clone(c.ring), func(k impl.Key) bool { return k.Id == c.kid })
			},
			func(c *tokenCase) { c.ring = nil },
		},
		4: {
			func(c *tokenCase) { c.ring = changedKeys(c.ring, "k1", 21, 60) },
			func(c *tokenCase) { c.ring = changedKeys(c.ring, "k1", 5, 19) },
			func(c *tokenCase) { c.ring = changedKeys(c.ring, "k1", 0, 0) },
			func(c *tokenCase) { c.ring = changedKeys(c.ring, "k1", lastTime, lastTime) },
		},
		5: {
			func(c *tokenCase) { c.secret = 8 },
			func(c *tokenCase) { c.secret = 4712 },
			func(c *tokenCase) { c.secret = impl.Order - 4711 },
		},
		6: {
			func(c *tokenCase) { c.claims["exp"] = "@19" },
			func(c *tokenCase) { c.claims["exp"] = "50" },
			func(c *tokenCase) { delete(c.claims, "exp") },
			func(c *tokenCase) { c.claims["nbf"] = "@21" },
			func(c *tokenCase) { c.claims["nbf"] = `"10"` },
		},
		7: {
			func(c *tokenCase) { c.aud = "web" },
			func(c *tokenCase) { c.aud = "" },
			func(c *tokenCase) { c.claims["aud"] = `"API"` },
			func(c *tokenCase) { c.claims["aud"] = "7" },
			func(c *tokenCase) { delete(c.claims, "aud") },
		},
	}
}

// changedKeys is a copy of the ring in which the key with the id has other times.
func changedKeys(ring []impl.Key, id string, from int, until int) []impl.Key {
	ring = slices.Clone(ring)
	for i, k := range ring {
		if k.Id == id {
			ring[i].From, ring[i].Until = from, until
		}
	}
	return ring
}

// noClaims are texts that may stand in no token: each is no good record as it is told, or beyond the limit.
func noClaims() []string {
	texts := []string{
		"", " ", "{", "}", "{}}", "{} ", " {}", "{ }", "{,}", "{a}", "{a:}", "{:1}", "{a:1,}", "{,a:1}", "{a:1 }", "{a: 1}", "{a :1}", "{a:01}", "{a:+1}", "{a:1.0}", "{a:@}", "{a:\"x}", "{a:\"\x7f\"}", "{a:\"\n\"}",
		"{b:1,a:2}", "{a:1,a:1}", "{a:1,a:2}", "{1:1}", "{a-b:1}", "{a:{}}", "{a:[1]}", "[]", "[1]", "1", "true", "\"a\"", "@5", "User::\"a\"", "v1", "~", "\x00",
		"{" + longName("n") + "n:1}",
		"{a:\"" + strings.Repeat("x", 201) + "\"}",
	}
	var items []string
	for i, name := range countedNames(51) {
		items = append(items, name+":"+strconv.Itoa(i))
	}
	texts = append(texts, "{"+strings.Join(items, ",")+"}")
	for _, length := range []int{4001, 4002, 5000} {
		texts = append(texts, impl.ValueText(claimsOfLength(length)))
	}
	return texts
}

// formless are texts that are no tokens, made of one that is.
func formless() []string {
	plain := plainTokenCase()
	parts := strings.Split(plain.text(), "~")
	with := func(at int, part string) string {
		changed := slices.Clone(parts)
		changed[at] = part
		return strings.Join(changed, "~")
	}
	texts := []string{
		"", "~", "~~", "~~~", "~~~~", "v1", "v1~k1", "v1~~~", "v1~k1~~", "v1~k1~fdug~",
		strings.Join(parts[:3], "~"), strings.Join(parts[1:], "~"), strings.Join(append(parts, ""), "~"), strings.Join(append([]string{""}, parts...), "~"), strings.Join(append(parts, parts[3]), "~"), strings.Join(append(slices.Clone(parts[:3]), "k1", parts[3]), "~"), strings.Join(parts, "~~"), strings.Join(parts, ""), strings.Join(parts, "."), strings.Join(parts, " ~"),
		plain.text() + "\n", "\n" + plain.text(), plain.text() + " ", " " + plain.text(), plain.text() + plain.text(),
		with(0, ""), with(0, "v"), with(0, "v2"), with(0, "V1"), with(0, "v10"), with(0, "v1 "), with(0, " v1"), with(0, "cap"), with(0, "1"),
		with(1, ""), with(2, ""), with(3, ""),
	}
	for _, id := range badIds() {
		texts = append(texts, with(1, id), signedAnyhow(plain.secret, id, plain.claimsText()))
	}
	for _, armor := range badArmor() {
		texts = append(texts, with(2, armor), with(3, armor))
	}
	for _, claims := range noClaims() {
		texts = append(texts, signedAnyhow(plain.secret, plain.kid, claims))
	}
	for _, changed := range []string{strings.ToUpper(parts[2]), parts[2] + "0", parts[2] + "00", parts[2][1:], parts[2][:len(parts[2])-1], parts[2] + "=", parts[3]} {
		texts = append(texts, with(2, changed))
	}
	sig, _ := unarmorByWords(parts[3])
	for _, changed := range []string{strings.ToUpper(parts[3]), parts[3] + "0", parts[3] + "00", parts[3][1:], parts[3][:12], parts[3] + "=", parts[2]} {
		texts = append(texts, with(3, changed))
	}
	for _, length := range []int{0, 1, 4, 7, 9, 12, 16, 20} {
		texts = append(texts, with(3, armorByWords([]byte((sig + sig + sig)[:length]))))
	}
	// The last letter of eight bytes has one bit too many, which is 0.
	last := strings.IndexByte(armorAlphabet, parts[3][12])
	return append(texts, with(3, parts[3][:12]+armorAlphabet[last+1:last+2]))
}

// drawnTokenCase has most often no fault, or one or two.
func drawnTokenCase(from *rand.Rand) tokenCase {
	c := plainTokenCase()
	c.time = 10 + from.Intn(41)
	c.claims["sub"] = "\"" + drawnText(from, "abc ~,{}:@.", 12) + "\""
	if from.Intn(3) == 0 {
		delete(c.claims, "nbf")
	}
	c.secret = 1 + from.Intn(impl.Order-1)
	c.ring[1].Public = impl.PublicOf(c.secret)
	for range from.Intn(3) {
		oneOf(from, tokenFaults()[1+from.Intn(7)])(&c)
	}
	return c
}

// rotateCase is all that RotateRing takes.
type rotateCase struct {
	ring  []impl.Key
	next  impl.Key
	time  int
	grace int
}

func plainRotateCase() rotateCase {
	return rotateCase{[]impl.Key{keyOf("a", 1, 0, 19), keyOf("b", 2, 0, 20), keyOf("d", 3, 5, 100), keyOf("e", 4, 26, 100), keyOf("f", 5, 25, 26)}, keyOf("c", 6, 20, 200), 20, 5}
}

func drawnRotateCase(from *rand.Rand) rotateCase {
	var ring []impl.Key
	for _, id := range []string{"a", "b", "c", "d", "e", "f", "g", "h", "i", "j", "k"} {
		if from.Intn(12) > 0 && len(ring) < 10 {
			start := from.Intn(12)
			ring = append(ring, keyOf(id, 1+from.Intn(50), start, start+from.Intn(12)))
		}
	}
	start := from.Intn(9)
	c := rotateCase{ring[:from.Intn(len(ring)+1)], keyOf(oneOf(from, []string{"", "a", "aa", "c", "cc", "f", "k", "z", "~"}), from.Intn(5), start, start+from.Intn(12)), from.Intn(24), from.Intn(12)}
	switch from.Intn(40) {
	case 0:
		c.next.From, c.next.Until = c.next.Until+1, c.next.From
	case 1:
		c.time = oneOf(from, []int{math.MinInt, -1, lastTime, lastTime + 1, math.MaxInt})
	case 2:
		c.grace = oneOf(from, []int{math.MinInt, -1, lastTime, lastTime + 1, math.MaxInt})
	}
	return c
}

// toldTerm is a term and its text.
type toldTerm struct {
	term impl.CavTerm
	text string
}

// goodCapTerms are terms of every sort, each with its text.
func goodCapTerms() []toldTerm {
	terms := []toldTerm{
		{atomTerm("used", impl.OpLess, numAtom(3)), "used < 3"},
		{atomTerm("true", impl.OpSame, textAtom("true")), "true == \"true\""},
		{atomTerm("in", impl.OpIn, addrAtom(10<<24, 8)), "in in 10.0.0.0/8"},
		{atomTerm("a", impl.OpSame, textAtom("a ~ b == c\\")), "a == \"a ~ b == c\\\\\""},
		{atomTerm("a", impl.OpMost, textAtom(" <= ")), "a <= \" <= \""},
		{atomTerm(longName("z"), impl.OpMost, numAtom(math.MinInt)), longName("z") + " <= -9223372036854775808"},
	}
	for _, g := range goodAtoms() {
		switch g.atom.Kind {
		case impl.NumAtom, impl.TextAtom, impl.DecAtom, impl.TimeAtom:
			terms = append(terms, toldTerm{atomTerm("a", impl.OpSame, g.atom), "a == " + g.text}, toldTerm{atomTerm("B_9", impl.OpLess, g.atom), "B_9 < " + g.text}, toldTerm{atomTerm("_", impl.OpMost, g.atom), "_ <= " + g.text})
		case impl.AddrAtom:
			terms = append(terms, toldTerm{atomTerm("from", impl.OpIn, g.atom), "from in " + g.text})
		}
	}
	return terms
}

// badCapTerms are no terms of a capability, though some of them are terms of a caveat.
func badCapTerms() []impl.CavTerm {
	bad := []impl.CavTerm{{}, {Left: "a"}, {Left: "a", Op: impl.OpSame}, {Left: "a", Op: impl.OpIn}, {Op: impl.OpSame, Atom: numAtom(1)}, paramTerm("a", impl.OpSame, "b"), paramTerm("a", impl.OpLess, "a"), {Left: "a", Op: impl.OpLess, Param: "b", Atom: numAtom(3)}, {Left: "a", Op: impl.OpLess, Param: " ", Atom: numAtom(3)}}
	for _, word := range badWords() {
		bad = append(bad, atomTerm(word, impl.OpLess, numAtom(3)))
	}
	for _, a := range badAtoms() {
		for op := 1; op <= 4; op++ {
			bad = append(bad, atomTerm("a", op, a))
		}
	}
	for _, g := range goodAtoms() {
		for _, op := range []int{math.MinInt, -1, 0, 5, 6, math.MaxInt} {
			bad = append(bad, atomTerm("a", op, g.atom))
		}
		switch g.atom.Kind {
		case impl.BoolAtom, impl.RefAtom:
			bad = append(bad, atomTerm("a", impl.OpSame, g.atom), atomTerm("a", impl.OpLess, g.atom), atomTerm("a", impl.OpMost, g.atom), atomTerm("a", impl.OpIn, g.atom))
		case impl.AddrAtom:
			bad = append(bad, atomTerm("a", impl.OpSame, g.atom), atomTerm("a", impl.OpLess, g.atom), atomTerm("a", impl.OpMost, g.atom))
		default:
			bad = append(bad, atomTerm("a", impl.OpIn, g.atom))
		}
	}
	return bad
}

// countedTerms all hold of a record with an n of 0.
func countedTerms(many int) []impl.CavTerm {
	var terms []impl.CavTerm
	for i := range many {
		terms = append(terms, atomTerm("n", impl.OpLess, numAtom(1+i)))
	}
	return terms
}

// longestTerm has as many bytes as a term may have.
func longestTerm() impl.CavTerm {
	return atomTerm(longName("z"), impl.OpSame, textAtom(strings.Repeat("\\", 200)))
}

func goodCaps() []impl.Cap {
	root := []byte("root")
	good := []impl.Cap{
		capByWords(root, "doc1"), capByWords(nil, "a"), capByWords(bytes.Repeat([]byte{255}, 64), longId("-")), capByWords(root, ".", countedTerms(19)...), capByWords(root, "_", countedTerms(20)...), capByWords(root, "x", slices.Repeat([]impl.CavTerm{longestTerm()}, 20)...),
		{Id: "forged", Tag: make([]byte, 16)}, {Id: "forged", Terms: countedTerms(3), Tag: []byte("sixteen bytes !!")}, {Id: "forged", Tag: bytes.Repeat([]byte{255}, 16)},
	}
	for i, told := range goodCapTerms() {
		good = append(good, capByWords(root, "t"+strconv.Itoa(i), told.term), capByWords(root, "u"+strconv.Itoa(i), told.term, countedTerms(1)[0], told.term))
	}
	return good
}

func badCaps() []impl.Cap {
	plain := capByWords([]byte("root"), "doc1", countedTerms(2)...)
	bad := []impl.Cap{{}, {Id: "doc1"}, {Tag: plain.Tag}, {Id: "doc1", Terms: plain.Terms}}
	for _, id := range badIds() {
		bad = append(bad, impl.Cap{Id: id, Terms: plain.Terms, Tag: plain.Tag})
	}
	for _, length := range []int{0, 1, 8, 15, 17, 32, 20000, 20001} {
		bad = append(bad, impl.Cap{Id: "doc1", Terms: plain.Terms, Tag: bytes.Repeat([]byte{7}, length)}, impl.Cap{Id: "doc1", Tag: bytes.Repeat([]byte{7}, length)})
	}
	for _, many := range []int{21, 22, 5000} {
		bad = append(bad, impl.Cap{Id: "doc1", Terms: countedTerms(many), Tag: plain.Tag})
	}
	for i, t := range badCapTerms() {
		terms := countedTerms(3)
		terms[i%3] = t
		bad = append(bad, impl.Cap{Id: "doc1", Terms: terms, Tag: plain.Tag}, impl.Cap{Id: "doc1", Terms: []impl.CavTerm{t}, Tag: plain.Tag})
	}
	return bad
}

// capTextOf puts any lines and any tag into the form of a capability.
func capTextOf(id string, lines string, tag []byte) string {
	return "cap~" + id + "~" + armorByWords([]byte(lines)) + "~" + armorByWords(tag)
}

// noCapTexts are texts of no capability.
func noCapTexts() []string {
	tag := []byte("sixteen bytes !!")
	good := capTextOf("doc1", "used < 3\n", tag)
	parts := strings.Split(good, "~")
	texts := []string{
		"", "~", "~~~", "cap", "cap~~~", "cap~doc1~~", "cap~doc1~", "cap~doc1", good + "~", "~" + good, good + "\n", good + " ", " " + good, good + "0", good[1:], good[:len(good)-1], strings.ToUpper(good), "Cap" + good[3:], "CAP" + good[3:], "cap " + good[3:], "capp" + good[3:], "v1" + good[3:],
		strings.Join(parts[:3], "~"), strings.Join(parts[1:], "~"), strings.Join(append(slices.Clone(parts), parts[3]), "~"), strings.Join(parts, ""), strings.Join(parts, "~~"), plainTokenCase().text(),
	}
	for _, id := range badIds() {
		texts = append(texts, capTextOf(id, "used < 3\n", tag))
	}
	for _, armor := range badArmor() {
		texts = append(texts, "cap~doc1~"+armor+"~"+armorByWords(tag), "cap~doc1~~"+armor)
	}
	for _, length := range []int{0, 1, 15, 17, 32} {
		texts = append(texts, capTextOf("doc1", "", bytes.Repeat([]byte{7}, length)), capTextOf("doc1", "used < 3\n", bytes.Repeat([]byte{7}, length)))
	}
	for _, lines := range []string{
		"used < 3", "\n", "used < 3\n\n", "\nused < 3\n", "used < 3\n ", "used < 3\nused < 3", "used < 3\r\n", "used < 3 \n", " used < 3\n", "used  < 3\n", "used <  3\n", "used<3\n", "used < \n", "used <\n", "used\n", "< 3\n", " < 3\n", "used > 3\n", "used = 3\n", "used >= 3\n", "used != 3\n", "used IN 10.0.0.0/8\n", "used  3\n", "used 3\n", "3 < used\n", "used < other\n", "used < 03\n", "used < 3 && used < 4\n", "used\t<\t3\n",
		"used < true\n", "used == true\n", "used == User::\"a\"\n", "used == 10.0.0.0/8\n", "used < 10.0.0.0/8\n", "used in 3\n", "used in \"a\"\n", "used in 10.0.0.1/8\n", "used == \"a\nb\"\n", "used == \"a\n", "used == \"a\x00\"\n", "used == \"" + strings.Repeat("x", 201) + "\"\n", longName("z") + "z < 3\n", "1 < 3\n", "a-b < 3\n", "\x00",
		strings.Repeat("n < 1\n", 21), strings.Repeat("n < 1\n", 1000), strings.Repeat("\n", 5000), "n < 1\n\x00",
	} {
		texts = append(texts, capTextOf("doc1", lines, tag))
	}
	return texts
}

// capGivens are records that tell, or do not tell, what terms ask for.
func capGivens() []impl.Value {
	return []impl.Value{valueOf("{}"), valueOf("{n:0}"), valueOf("{n:1}"), valueOf("{n:2}"), valueOf("{n:19}"), valueOf("{n:20}"), valueOf(`{n:"0"}`), valueOf("{n:0.0000}"), valueOf("{n:@0}"), valueOf("{n:true}"), valueOf("{N:0}"), valueOf("{a:0,n:-5,z:0}")}
}

// A byte counts for a digest by its place from the end, and that times what it is. Each of these rows of numbers comes to nothing so, modulo Prime: where two data have one of them between them, at the same place from their ends, their digests clash.
var (
	textClash = []int{-19, -14, -2, 7, 20, -10, 0, -9, 3, 11, -8, 3, 16, -15, 11, 4, 6, -3, -18, -1, 4, -9, -12, 10}
	tagClash  = []int{-44, -63, -32, 15, 0, -68, -14, 19, -88, -74, 114, -99, -32, -33, -57, 80}
)

// clashingTexts are two texts of small letters that clash, whatever stands ahead of both or behind both.
func clashingTexts() (string, string) {
	var one, other []byte
	for _, apart := range textClash {
		one = append(one, byte('m'+apart/2))
		other = append(other, byte('m'+apart/2-apart))
	}
	return string(one), string(other)
}

// clashingTag is another tag with the same digest; false where it would have numbers that are no bytes.
func clashingTag(tag []byte) ([]byte, bool) {
	var other []byte
	for i, x := range tag {
		if !isBetween(int(x)+tagClash[i], 0, 255) {
			return nil, false
		}
		other = append(other, byte(int(x)+tagClash[i]))
	}
	return other, true
}

// drawnTerm is a good one about one of three names.
func drawnTerm(from *rand.Rand) impl.CavTerm {
	left := oneOf(from, []string{"a", "b", "c"})
	if from.Intn(5) == 0 {
		return atomTerm(left, impl.OpIn, oneOf(from, atomsOfKinds()[impl.AddrAtom]))
	}
	kind := oneOf(from, []int{impl.NumAtom, impl.NumAtom, impl.TextAtom, impl.DecAtom, impl.TimeAtom})
	return atomTerm(left, 1+from.Intn(3), oneOf(from, atomsOfKinds()[kind]))
}

// fitTerm is a good one about a kind that its name most often has in drawnFit.
func fitTerm(from *rand.Rand) impl.CavTerm {
	kinds := []int{impl.NumAtom, impl.TextAtom, impl.AddrAtom}
	i := from.Intn(3)
	op := oneOf(from, [][]int{{1, 2, 3, 3, 3}, {1, 2, 3, 3}, {4}}[i])
	return atomTerm([]string{"a", "b", "c"}[i], op, oneOf(from, atomsOfKinds()[kinds[i]]))
}

func drawnTerms(from *rand.Rand, most int) []impl.CavTerm {
	var terms []impl.CavTerm
	for range from.Intn(most + 1) {
		if from.Intn(4) == 0 {
			terms = append(terms, drawnTerm(from))
		} else {
			terms = append(terms, fitTerm(from))
		}
	}
	return terms
}

func drawnFit(from *rand.Rand) impl.Value {
	return drawnGiven(from, []impl.Param{param("a", impl.NumAtom), param("b", impl.TextAtom), param("c", impl.AddrAtom)}[from.Intn(2):])
}
