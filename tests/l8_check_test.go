package tests

import (
	"math/rand"
	"slices"
	"strconv"
	"strings"
	"testing"

	"loop.example/g00036/impl"
)

func TestGoodAsk(t *testing.T) {
	s := desks()
	if !impl.GoodRelSchema(s) || !impl.GoodTuples(s, tuplesOf(deskTexts()...)) {
		t.Fatalf("the schema and the tuples of the tests: want them good")
	}
	for i, a := range goodAsks() {
		if !impl.GoodAsk(s, a) || !goodAskByWords(s, a) {
			t.Errorf("ask %d, %+v: want it good", i, a)
		}
	}
	for i, a := range badAsks() {
		if impl.GoodAsk(s, a) || goodAskByWords(s, a) {
			t.Errorf("bad ask %d, %.200s: want false", i, shown(a))
		}
	}
}

// Each type with each name, as what is asked and as the subject.
func TestAsksOfEachName(t *testing.T) {
	s := desks()
	words := []string{"", "doc", "folder", "group", "user", "banned", "edit", "member", "owner", "parent", "read", "see", "view", "viewer"}
	good := 0
	for _, typ := range words {
		for _, name := range words {
			for _, a := range []impl.Ask{{Type: typ, Id: "a", Name: name, SubType: "user", SubId: "b"}, {Type: "doc", Id: "a", Name: "view", SubType: typ, SubId: "b", SubRel: name}} {
				got := impl.GoodAsk(s, a)
				if got != goodAskByWords(s, a) {
					t.Errorf("%+v: got %v", a, got)
				}
				if got {
					good++
				}
			}
		}
	}
	// 11 names, once as what is asked, once behind a subject, and 4 types as subjects.
	if good != 26 {
		t.Errorf("good asks: got %d", good)
	}
}

func TestIdsOfAsksWithEachByte(t *testing.T) {
	s := desks()
	for c := range 256 {
		for _, id := range []string{string([]byte{byte(c)}), "a" + string([]byte{byte(c)}), string([]byte{byte(c)}) + "a"} {
			want := idForm.MatchString(id) && c != '\n'
			object, subject := askOf("doc:d1#view@user:ann"), askOf("doc:d1#view@user:ann")
			object.Id, subject.SubId = id, id
			if impl.GoodAsk(s, object) != want || impl.GoodAsk(s, subject) != want {
				t.Errorf("the id %q: want %v", id, want)
			}
			if got := impl.ExpandText(s, nil, "doc", id, "owner"); (got == "doc:"+id+"#owner{}") != want {
				t.Errorf("the text of the id %q: got %q", id, got)
			}
		}
	}
}

// checkCase is a list of tuples with what Check says of some asks.
type checkCase struct {
	given  string
	tuples []string
	asks   map[string]string
}

func askCases(t *testing.T, s impl.RelSchema, cases []checkCase) {
	t.Helper()
	for i, c := range cases {
		list, given := tuplesOf(c.tuples...), givenOf(c.given)
		if !impl.GoodTuples(s, list) {
			t.Errorf("case %d: want good tuples, %s", i, c.tuples)
		}
		for text, want := range c.asks {
			a := askOf(text)
			if got := impl.Check(s, list, a, given); !isBetween(got, 0, 2) || wordsOfValues[got] != want {
				t.Errorf("case %d, %s: got %d, want %s", i, text, got, want)
			}
			if got := checkByWords(s, list, a, given); !isBetween(got, 0, 2) || wordsOfValues[got] != want {
				t.Errorf("case %d, %s by words: got %d, want %s", i, text, got, want)
			}
			askAgreement(t, s, list, a, given)
		}
	}
}

// askAgreement holds all that the functions of the chapter say of one ask against what the words say and against each other.
func askAgreement(t *testing.T, s impl.RelSchema, list []impl.Tuple, a impl.Ask, given impl.Value) {
	t.Helper()
	value, facts := impl.Check(s, list, a, given), impl.FactsOf(s, list, a, given)
	if want := checkByWords(s, list, a, given); value != want {
		t.Errorf("Check of %s, %+v, %s: got %d, want %d", tuplesText(list), a, impl.ValueText(given), value, want)
	}
	if want := factsByWords(s, list, a, given); !slices.Equal(facts, want) {
		t.Errorf("FactsOf %s, %+v, %s: got %s, want %s", tuplesText(list), a, impl.ValueText(given), factsText(facts), factsText(want))
	}
	own := impl.Fact{Type: a.Type, Id: a.Id, Name: a.Name, Value: value}
	if slices.Contains(facts, own) != (value != impl.No) {
		t.Errorf("FactsOf and Check of %s, %+v: %d is not in %s", tuplesText(list), a, value, factsText(facts))
	}
	if !impl.Supported(s, list, a, given, facts) {
		t.Errorf("%s, %+v: what FactsOf tells is not supported: %s", tuplesText(list), a, factsText(facts))
	}
	if got, want := impl.SubjectsOf(s, list, a, given), subjectsByWords(s, list, a, given); !slices.Equal(got, want) {
		t.Errorf("SubjectsOf %s, %+v: got %s, want %s", tuplesText(list), a, factsText(got), factsText(want))
	}
	if got, want := impl.ObjectsOf(s, list, a, given), objectsOfByWords(s, list, a, given); !slices.Equal(got, want) {
		t.Errorf("ObjectsOf %s, %+v: got %s, want %s", tuplesText(list), a, factsText(got), factsText(want))
	}
}

func TestCheck(t *testing.T) {
	askCases(t, desks(), []checkCase{
		{"{}", nil, map[string]string{
			"doc:d1#view@user:ann": "no", "doc:d1#owner@user:ann": "no", "group:g#member@group:g#member": "no", "doc:d1#edit@doc:d1#edit": "no",
		}},
		{"{}", deskTexts(), map[string]string{
			"doc:d1#view@user:bob": "yes", "doc:d1#view@user:cy": "no", "doc:d1#view@user:ann": "maybe", "doc:d1#edit@user:ann": "maybe", "doc:d1#edit@user:bob": "no", "doc:d1#banned@user:cy": "yes", "doc:d1#folder@folder:f1": "yes", "doc:d1#view@group:g1#member": "yes", "doc:d1#view@group:g2#member": "yes", "doc:d1#view@group:g1": "no", "doc:d1#view@group:g3#member": "no",
			"doc:d2#view@user:bob": "yes", "doc:d2#view@user:dan": "maybe", "doc:d2#view@user:ann": "maybe", "doc:d2#viewer@doc:d1": "no", "doc:d2#folder@user:ann": "yes", "doc:d2#folder@folder:f9": "yes", "doc:d2#folder@folder:f9#see": "no", "doc:d2#folder@folder:f1#see": "yes", "doc:d2#folder@user:bob": "yes", "doc:d2#folder@user:cy": "no",
			"folder:f1#see@user:bob": "yes", "folder:f2#see@user:bob": "yes", "folder:f1#owner@user:bob": "no", "folder:f1#parent@folder:f2": "yes", "folder:f1#parent@folder:f1": "no", "folder:f1#parent@user:bob": "no",
			"group:g1#member@user:bob": "yes", "group:g1#member@group:g1#member": "yes", "group:g3#member@user:bob": "no", "doc:d3#view@user:bob": "no",
		}},
		{"{now:@3}", deskTexts(), map[string]string{"doc:d1#view@user:ann": "yes", "doc:d1#edit@user:ann": "yes", "doc:d2#view@user:dan": "maybe"}},
		{"{now:@10}", deskTexts(), map[string]string{"doc:d1#view@user:ann": "no", "doc:d1#owner@user:ann": "no"}},
		{"{from:10.1.0.0/16}", deskTexts(), map[string]string{"doc:d2#view@user:dan": "yes", "doc:d2#viewer@user:dan": "yes", "doc:d2#viewer@user:bob": "yes"}},
		{"{from:11.0.0.0/8}", deskTexts(), map[string]string{"doc:d2#view@user:dan": "no", "doc:d2#viewer@user:bob": "yes"}},
	})
}

// Groups and folders that are in each other and in themselves give nothing of their own, and end.
func TestLoopsOfGroupsAndFolders(t *testing.T) {
	askCases(t, desks(), []checkCase{
		{"{}", []string{"group:g#member@group:g#member"}, map[string]string{"group:g#member@user:ann": "no", "group:g#member@group:g": "no", "group:g#member@group:g#member": "yes", "group:g#member@group:h#member": "no"}},
		{"{}", []string{"group:g#member@group:g#member", "group:g#member@user:ann"}, map[string]string{"group:g#member@user:ann": "yes", "group:g#member@user:bob": "no"}},
		{"{}", []string{"group:g#member@group:h#member", "group:h#member@group:g#member"}, map[string]string{"group:g#member@user:ann": "no", "group:h#member@user:ann": "no", "group:g#member@group:g#member": "yes", "group:g#member@group:h#member": "yes"}},
		{"{}", []string{"group:g#member@group:h#member", "group:h#member@group:g#member", "group:h#member@user:ann"}, map[string]string{"group:g#member@user:ann": "yes", "group:h#member@user:ann": "yes"}},
		{"{}", []string{"group:a#member@group:b#member", "group:b#member@group:c#member", "group:c#member@group:a#member", "group:c#member@group:c#member", "group:c#member@user:ann[fresh:{}]"}, map[string]string{"group:a#member@user:ann": "maybe", "group:b#member@user:ann": "maybe", "group:c#member@user:ann": "maybe", "group:a#member@group:b#member": "yes"}},
		{"{}", []string{"group:a#member@group:b#member", "group:a#member@user:ann[fresh:{now:@1}]", "group:b#member@group:a#member", "group:b#member@user:ann[fresh:{}]"}, map[string]string{"group:a#member@user:ann": "yes", "group:b#member@user:ann": "yes"}},
		{"{}", []string{"folder:f#parent@folder:f"}, map[string]string{"folder:f#see@user:ann": "no", "folder:f#see@folder:f": "no", "folder:f#parent@folder:f": "yes"}},
		{"{}", []string{"folder:f#owner@user:ann", "folder:f#parent@folder:f"}, map[string]string{"folder:f#see@user:ann": "yes", "folder:f#see@user:bob": "no"}},
		{"{}", []string{"folder:f#parent@folder:g", "folder:g#parent@folder:f"}, map[string]string{"folder:f#see@user:ann": "no", "folder:g#see@user:ann": "no"}},
		{"{}", []string{"folder:f#parent@folder:g", "folder:g#owner@user:ann", "folder:g#parent@folder:f"}, map[string]string{"folder:f#see@user:ann": "yes", "folder:g#see@user:ann": "yes", "folder:f#owner@user:ann": "no"}},
		{"{}", []string{"doc:d#folder@folder:f", "folder:f#owner@group:g#member", "folder:f#parent@folder:f", "folder:f#parent@folder:g", "folder:g#parent@folder:f", "group:g#member@group:g#member", "group:g#member@group:h#member", "group:h#member@group:g#member", "group:h#member@user:*"}, map[string]string{"doc:d#view@user:ann": "yes", "folder:g#see@user:bob": "yes", "doc:d#view@group:g": "no", "doc:d#view@group:h#member": "yes"}},
	})
	askCases(t, relOf("type a", " relation r: a", " relation s: a", " permission o = p & r", " permission p = o + q", " permission q = p + s", " permission x = x", " permission y = z", " permission z = y + y & x"), []checkCase{
		{"{}", []string{"a:a#r@a:u"}, map[string]string{"a:a#p@a:u": "no", "a:a#q@a:u": "no", "a:a#o@a:u": "no", "a:a#x@a:u": "no", "a:a#y@a:u": "no", "a:a#z@a:u": "no"}},
		{"{}", []string{"a:a#r@a:u", "a:a#s@a:u"}, map[string]string{"a:a#p@a:u": "yes", "a:a#q@a:u": "yes", "a:a#o@a:u": "yes", "a:a#x@a:u": "no"}},
		{"{}", []string{"a:a#s@a:u"}, map[string]string{"a:a#p@a:u": "yes", "a:a#q@a:u": "yes", "a:a#o@a:u": "no"}},
	})
	// A loop by way of permissions as subjects and of arrows, across types.
	askCases(t, relOf("type a", " relation r: b | b#p | u", " permission p = r + r->p", "type b", " relation r: a | a#p", " permission p = r->p + r", "type u"), []checkCase{
		{"{}", []string{"a:1#r@b:1", "b:1#r@a:1"}, map[string]string{"a:1#p@u:u": "no", "b:1#p@u:u": "no", "a:1#p@b:1": "yes", "b:1#p@b:1": "yes"}},
		{"{}", []string{"a:1#r@b:1#p", "b:1#r@a:1#p"}, map[string]string{"a:1#p@u:u": "no", "b:1#p@u:u": "no", "a:1#p@b:1": "no", "a:1#p@b:1#p": "yes", "b:1#p@b:1#p": "yes"}},
		{"{}", []string{"a:1#r@b:1#p", "a:1#r@u:u", "b:1#r@a:1"}, map[string]string{"a:1#p@u:u": "yes", "b:1#p@u:u": "yes", "b:1#r@u:u": "no"}},
	})
}

func TestStarsInChecks(t *testing.T) {
	s := relOf("caveat c(n num): n == 1", "type a", " relation r: b | b with c | b:* | b:* with c | b#r | b#r with c | c:*", "type b", " relation r: b | b:*", "type c", " relation r: b")
	askCases(t, s, []checkCase{
		{"{}", []string{"a:a#r@b:*"}, map[string]string{"a:a#r@b:x": "yes", "a:a#r@b:a": "yes", "a:a#r@b:x#r": "no", "a:a#r@c:x": "no", "a:a#r@c:x#r": "no", "a:a#r@a:a": "no", "a:a#r@a:a#r": "no", "a:b#r@b:x": "no"}},
		{"{}", []string{"a:a#r@c:*"}, map[string]string{"a:a#r@b:x": "no", "a:a#r@c:x": "yes", "a:a#r@c:x#r": "no"}},
		{"{}", []string{"a:a#r@b:*", "a:a#r@c:*"}, map[string]string{"a:a#r@b:x": "yes", "a:a#r@c:x": "yes", "a:a#r@c:x#r": "no", "a:a#r@a:x": "no"}},
		{"{}", []string{"a:a#r@b:*[c:{}]"}, map[string]string{"a:a#r@b:x": "maybe", "a:a#r@b:x#r": "no", "a:a#r@c:x": "no"}},
		{"{n:1}", []string{"a:a#r@b:*[c:{}]"}, map[string]string{"a:a#r@b:x": "yes", "a:a#r@b:x#r": "no"}},
		{"{}", []string{"a:a#r@b:*[c:{n:3}]"}, map[string]string{"a:a#r@b:x": "no"}},
		{"{}", []string{"a:a#r@b:*[c:{}]", "a:a#r@b:x"}, map[string]string{"a:a#r@b:x": "yes", "a:a#r@b:y": "maybe"}},
		{"{}", []string{"a:a#r@b:*", "a:a#r@b:x[c:{n:2}]"}, map[string]string{"a:a#r@b:x": "yes", "a:a#r@b:y": "yes"}},
		{"{}", []string{"a:a#r@b:*[c:{n:2}]", "a:a#r@b:x[c:{}]"}, map[string]string{"a:a#r@b:x": "maybe", "a:a#r@b:y": "no"}},
		// A `*` further down.
		{"{}", []string{"a:a#r@b:g#r", "b:g#r@b:*"}, map[string]string{"a:a#r@b:x": "yes", "a:a#r@b:x#r": "no", "a:a#r@b:g#r": "yes", "a:a#r@c:x": "no"}},
		{"{}", []string{"a:a#r@b:g#r[c:{}]", "b:g#r@b:*"}, map[string]string{"a:a#r@b:x": "maybe", "a:a#r@b:g#r": "maybe", "b:g#r@b:x": "yes"}},
	})
}

// A tuple with a SubRel counts for the subject that it tells and for whom that one stands.
func TestSubjectsWithARel(t *testing.T) {
	s := relOf("caveat c(n num): n == 1", "type a", " relation q: b", " relation r: b | b with c | b#p | b#p with c", "type b", " relation q: b | b with c | b#p", " permission p = q")
	askCases(t, s, []checkCase{
		{"{}", []string{"a:a#r@b:g#p"}, map[string]string{"a:a#r@b:g#p": "yes", "a:a#r@b:g": "no", "a:a#r@b:g#q": "no", "a:a#r@b:h#p": "no", "a:a#q@b:g#p": "no", "a:b#r@b:g#p": "no"}},
		{"{}", []string{"a:a#r@b:g"}, map[string]string{"a:a#r@b:g": "yes", "a:a#r@b:g#p": "no"}},
		{"{}", []string{"a:a#r@b:g", "b:g#q@b:u"}, map[string]string{"a:a#r@b:u": "no", "a:a#r@b:g": "yes"}},
		{"{}", []string{"a:a#r@b:g#p", "b:g#q@b:u"}, map[string]string{"a:a#r@b:u": "yes", "a:a#r@b:g#p": "yes", "a:a#r@b:v": "no"}},
		{"{}", []string{"a:a#r@b:g#p[c:{}]", "b:g#q@b:u"}, map[string]string{"a:a#r@b:u": "maybe", "a:a#r@b:g#p": "maybe"}},
		{"{}", []string{"a:a#r@b:g#p[c:{n:2}]", "b:g#q@b:u"}, map[string]string{"a:a#r@b:u": "no", "a:a#r@b:g#p": "no", "b:g#p@b:u": "yes"}},
		{"{}", []string{"a:a#r@b:g#p", "b:g#q@b:u[c:{}]"}, map[string]string{"a:a#r@b:u": "maybe", "a:a#r@b:g#p": "yes"}},
		{"{}", []string{"a:a#r@b:g#p[c:{}]", "b:g#q@b:u[c:{n:2}]"}, map[string]string{"a:a#r@b:u": "no", "a:a#r@b:g#p": "maybe"}},
		{"{n:1}", []string{"a:a#r@b:g#p[c:{}]", "b:g#q@b:u[c:{}]"}, map[string]string{"a:a#r@b:u": "yes", "a:a#r@b:g#p": "yes"}},
		// The subject that is asked for, with a caveat, and itself by way of another tuple.
		{"{}", []string{"a:a#r@b:g#p[c:{}]", "a:a#r@b:h#p", "b:h#q@b:g#p"}, map[string]string{"a:a#r@b:g#p": "yes", "a:a#r@b:h#p": "yes", "b:h#p@b:g#p": "yes"}},
		{"{}", []string{"a:a#r@b:g#p[c:{}]", "b:g#q@b:g#p"}, map[string]string{"a:a#r@b:g#p": "maybe", "b:g#p@b:g#p": "yes"}},
		{"{}", []string{"a:a#r@b:g#p[c:{n:2}]", "b:g#q@b:g#p"}, map[string]string{"a:a#r@b:g#p": "no", "b:g#q@b:g#p": "yes"}},
		// The greatest counts, wherever it stands.
		{"{}", []string{"a:a#r@b:g#p[c:{n:2}]", "a:a#r@b:h#p[c:{}]", "a:a#r@b:u[c:{n:2}]", "b:g#q@b:u", "b:h#q@b:u"}, map[string]string{"a:a#r@b:u": "maybe"}},
		{"{}", []string{"a:a#r@b:g#p", "a:a#r@b:h#p[c:{}]", "a:a#r@b:u[c:{n:2}]", "b:g#q@b:u", "b:h#q@b:u"}, map[string]string{"a:a#r@b:u": "yes"}},
		{"{}", []string{"a:a#r@b:g#p[c:{}]", "a:a#r@b:u", "b:g#q@b:u"}, map[string]string{"a:a#r@b:u": "yes"}},
	})
}

func TestPairsOfEachTwoValues(t *testing.T) {
	s := valuedRel(2, "less = a - b", "meet = a & b", "union = a + b")
	for _, c := range [][]string{
		{"no", "no", "no", "no", "no"},
		{"no", "maybe", "no", "no", "maybe"},
		{"no", "yes", "no", "no", "yes"},
		{"maybe", "no", "maybe", "no", "maybe"},
		{"maybe", "maybe", "maybe", "maybe", "maybe"},
		{"maybe", "yes", "no", "maybe", "yes"},
		{"yes", "no", "yes", "no", "yes"},
		{"yes", "maybe", "maybe", "maybe", "yes"},
		{"yes", "yes", "no", "yes", "yes"},
	} {
		list := valuedTuples(c[0], c[1])
		for i, name := range []string{"a", "b", "less", "meet", "union"} {
			a := askOf("doc:d#" + name + "@user:u")
			if got := impl.Check(s, list, a, recordValue(nil)); wordsOfValues[got] != c[i] {
				t.Errorf("%s of %s and %s: got %d, want %s", name, c[0], c[1], got, c[i])
			}
			askAgreement(t, s, list, a, recordValue(nil))
		}
	}
}

// What is taken away within what is taken away, and at a level above, by what the values count.
func TestLessByNumbers(t *testing.T) {
	less := func(a, b int) int { return min(a, 2-b) }
	for _, c := range []struct {
		lines []string
		want  func(a, b, c int) int
	}{
		{[]string{"p = a - b"}, func(a, b, c int) int { return less(a, b) }},
		{[]string{"p = c - q", "q = a - b"}, func(a, b, c int) int { return less(c, less(a, b)) }},
		{[]string{"p = q - r", "q = a - r", "r = b - c"}, func(a, b, c int) int { return less(less(a, less(b, c)), less(b, c)) }},
		{[]string{"p = q - (r & q)", "q = c - r", "r = a - b"}, func(a, b, c int) int {
			r := less(a, b)
			q := less(c, r)
			return less(q, min(r, q))
		}},
		{[]string{"p = a - q", "q = b - r", "r = c - s", "s = a & b"}, func(a, b, c int) int { return less(a, less(b, less(c, min(a, b)))) }},
		{[]string{"p = a - (b - c)"}, func(a, b, c int) int { return less(a, less(b, c)) }},
		{[]string{"p = a - b - c"}, func(a, b, c int) int { return less(less(a, b), c) }},
		{[]string{"p = a + b - (b + c)"}, func(a, b, c int) int { return less(max(a, b), max(b, c)) }},
		{[]string{"p = a - (b & c)"}, func(a, b, c int) int { return less(a, min(b, c)) }},
		{[]string{"p = a & b - c"}, func(a, b, c int) int { return less(min(a, b), c) }},
		{[]string{"p = a - b + c"}, func(a, b, c int) int { return max(less(a, b), c) }},
		{[]string{"p = a - b & c"}, func(a, b, c int) int { return min(less(a, b), c) }},
		{[]string{"p = a - nil"}, func(a, b, c int) int { return a }},
		{[]string{"p = nil - a"}, func(a, b, c int) int { return 0 }},
		{[]string{"p = a - a"}, func(a, b, c int) int { return less(a, a) }},
		{[]string{"p = a & (b + c)"}, func(a, b, c int) int { return min(a, max(b, c)) }},
		{[]string{"p = a + (b & c)"}, func(a, b, c int) int { return max(a, min(b, c)) }},
		{[]string{"p = p + q - c", "q = p + a"}, func(a, b, c int) int { return less(a, c) }},
	} {
		s := valuedRel(3, c.lines...)
		for _, first := range valuesByRank {
			for _, second := range valuesByRank {
				for _, third := range valuesByRank {
					list := valuedTuples(wordsOfValues[first], wordsOfValues[second], wordsOfValues[third])
					want := valuesByRank[c.want(ranks[first], ranks[second], ranks[third])]
					if got := impl.Check(s, list, askOf("doc:d#p@user:u"), recordValue(nil)); got != want {
						t.Errorf("%s of %d %d %d: got %d, want %d", c.lines, first, second, third, got, want)
					}
				}
			}
		}
	}
}

// An arrow goes on by no tuple with a SubRel, by no `*`, and to no type without the name.
func TestArrows(t *testing.T) {
	s := relOf("caveat c(n num): n == 1", "type doc", " relation up: folder | folder with c | folder:* | folder#own | shelf | user", " permission via = up->own", " permission viaview = up->view", "type folder", " relation own: user | user with c | user:*", " permission view = own", "type shelf", " relation own: folder#own | user", "type user")
	askCases(t, s, []checkCase{
		{"{}", []string{"doc:d#up@folder:f", "folder:f#own@user:u"}, map[string]string{"doc:d#via@user:u": "yes", "doc:d#viaview@user:u": "yes", "doc:d#up@user:u": "no", "doc:d#up@folder:f": "yes", "doc:d#via@folder:f": "no", "doc:d#via@user:v": "no", "doc:e#via@user:u": "no"}},
		{"{}", []string{"doc:d#up@folder:f#own", "folder:f#own@user:u"}, map[string]string{"doc:d#via@user:u": "no", "doc:d#viaview@user:u": "no", "doc:d#up@user:u": "yes", "doc:d#via@folder:f#own": "no"}},
		{"{}", []string{"doc:d#up@folder:*", "folder:f#own@user:u"}, map[string]string{"doc:d#via@user:u": "no", "doc:d#up@folder:f": "yes", "doc:d#via@folder:f": "no"}},
		{"{}", []string{"doc:d#up@shelf:f", "folder:f#own@user:u"}, map[string]string{"doc:d#via@user:u": "no"}},
		{"{}", []string{"doc:d#up@shelf:f", "shelf:f#own@user:u"}, map[string]string{"doc:d#via@user:u": "yes", "doc:d#viaview@user:u": "no"}},
		{"{}", []string{"doc:d#up@user:u"}, map[string]string{"doc:d#via@user:u": "no", "doc:d#up@user:u": "yes"}},
		{"{}", []string{"doc:d#up@folder:f[c:{}]", "folder:f#own@user:u"}, map[string]string{"doc:d#via@user:u": "maybe", "doc:d#viaview@user:u": "maybe", "folder:f#view@user:u": "yes"}},
		{"{}", []string{"doc:d#up@folder:f[c:{n:2}]", "folder:f#own@user:u"}, map[string]string{"doc:d#via@user:u": "no"}},
		{"{}", []string{"doc:d#up@folder:f[c:{n:1}]", "folder:f#own@user:u[c:{}]"}, map[string]string{"doc:d#via@user:u": "maybe"}},
		{"{}", []string{"doc:d#up@folder:f[c:{}]", "folder:f#own@user:u[c:{n:2}]"}, map[string]string{"doc:d#via@user:u": "no"}},
		{"{n:1}", []string{"doc:d#up@folder:f[c:{}]", "folder:f#own@user:u[c:{}]"}, map[string]string{"doc:d#via@user:u": "yes"}},
		{"{}", []string{"doc:d#up@folder:f[c:{}]", "doc:d#up@folder:g", "doc:d#up@shelf:h", "folder:f#own@user:u", "folder:g#own@user:u[c:{n:2}]", "shelf:h#own@user:v"}, map[string]string{"doc:d#via@user:u": "maybe", "doc:d#via@user:v": "yes", "doc:d#viaview@user:v": "no"}},
		{"{}", []string{"doc:d#up@folder:f[c:{n:2}]", "doc:d#up@folder:g", "folder:f#own@user:u", "folder:g#own@user:*"}, map[string]string{"doc:d#via@user:u": "yes", "doc:d#via@user:v": "yes", "doc:d#via@folder:f": "no"}},
		{"{}", []string{"doc:d#up@folder:f#own", "doc:d#up@shelf:s", "folder:f#own@user:u", "shelf:s#own@folder:f#own"}, map[string]string{"doc:d#via@user:u": "yes", "doc:d#viaview@user:u": "no", "doc:d#via@folder:f#own": "yes"}},
	})
}

func TestCaveatsInChecks(t *testing.T) {
	s := desks()
	for _, c := range []struct {
		tuple, given, want string
	}{
		{"doc:d#owner@user:ann", "{}", "yes"},
		{"doc:d#owner@user:ann", "{now:@99}", "yes"},
		{"doc:d#owner@user:ann[fresh:{}]", "{}", "maybe"},
		{"doc:d#owner@user:ann[fresh:{}]", "{now:@9}", "yes"},
		{"doc:d#owner@user:ann[fresh:{}]", "{now:@10}", "no"},
		{"doc:d#owner@user:ann[fresh:{}]", "{Now:@10}", "maybe"},
		{"doc:d#owner@user:ann[fresh:{}]", "{now:10}", "maybe"},
		{"doc:d#owner@user:ann[fresh:{}]", "{now:\"@9\"}", "maybe"},
		{"doc:d#owner@user:ann[fresh:{now:@9}]", "{}", "yes"},
		{"doc:d#owner@user:ann[fresh:{now:@10}]", "{}", "no"},
		{"doc:d#owner@user:ann[fresh:{now:@9}]", "{now:@10}", "yes"},
		{"doc:d#owner@user:ann[fresh:{now:@10}]", "{now:@9}", "no"},
		{"doc:d#owner@user:ann[fresh:{now:@9}]", "{now:10}", "yes"},
		{"doc:d#owner@user:ann[fresh:{now:@10}]", "{now:true}", "no"},
		{"doc:d#viewer@user:ann[near:{}]", "{}", "maybe"},
		{"doc:d#viewer@user:ann[near:{}]", "{zone:\"a\"}", "maybe"},
		{"doc:d#viewer@user:ann[near:{}]", "{zone:\"b\"}", "no"},
		{"doc:d#viewer@user:ann[near:{}]", "{from:10.0.0.0/8,zone:\"a\"}", "yes"},
		{"doc:d#viewer@user:ann[near:{zone:\"a\"}]", "{from:10.0.0.0/8}", "yes"},
		{"doc:d#viewer@user:ann[near:{from:10.0.0.0/8}]", "{zone:\"a\"}", "yes"},
		{"doc:d#viewer@user:ann[near:{from:10.0.0.0/8}]", "{from:11.0.0.0/8,zone:\"a\"}", "yes"},
		{"doc:d#viewer@user:ann[near:{from:11.0.0.0/8}]", "{from:10.0.0.0/8,zone:\"a\"}", "no"},
		{"doc:d#viewer@user:ann[near:{zone:\"a\"}]", "{from:10.0.0.0/8,zone:\"b\"}", "yes"},
		{"doc:d#viewer@user:ann[near:{zone:\"b\"}]", "{}", "no"},
		{"doc:d#viewer@user:ann[near:{zone:\"a\"}]", "{}", "maybe"},
		{"doc:d#viewer@user:ann[near:{from:10.0.0.0/8,zone:\"a\"}]", "{from:11.0.0.0/8,zone:\"b\"}", "yes"},
	} {
		name := tupleOf(c.tuple).Rel
		askCases(t, s, []checkCase{{c.given, []string{c.tuple}, map[string]string{"doc:d#" + name + "@user:ann": c.want, "doc:d#" + name + "@user:bob": "no"}}})
	}
}

// What both give may be more than one record takes.
func TestGivenOfManyNames(t *testing.T) {
	s := desks()
	full := recordValue(countedNames(impl.MaxItems), countedAtoms(impl.MaxItems)...)
	list := tuplesOf("doc:d#viewer@user:*[near:{zone:\"a\"}]", "doc:d#viewer@user:ann[near:{from:10.0.0.0/8,zone:\"a\"}]")
	a := askOf("doc:d#viewer@user:ann")
	if got := impl.Check(s, list, a, full); got != impl.Yes {
		t.Errorf("a full record: got %d", got)
	}
	askAgreement(t, s, list, a, full)
	a.SubId = "bob"
	if got := impl.Check(s, list, a, full); got != impl.Maybe {
		t.Errorf("a full record without what is asked for: got %d", got)
	}
	askAgreement(t, s, list, a, full)
}

func TestFactsOf(t *testing.T) {
	s := desks()
	for _, c := range []struct {
		given, ask string
		tuples     []string
		want       string
	}{
		{"{}", "doc:d1#view@user:ann", nil, ""},
		{"{}", "doc:d1#view@user:ann", []string{"doc:d1#owner@user:bob"}, ""},
		{"{}", "doc:d9#view@user:ann", []string{"doc:d1#owner@user:ann"}, "doc:d1#edit=yes doc:d1#owner=yes doc:d1#read=yes doc:d1#view=yes"},
		{"{}", "group:g#member@user:ann", []string{"doc:d1#owner@user:ann"}, "doc:d1#edit=yes doc:d1#owner=yes doc:d1#read=yes doc:d1#view=yes"},
		{"{}", "doc:d1#view@user:bob", deskTexts(), "doc:d1#read=yes doc:d1#view=yes doc:d2#folder=yes doc:d2#read=yes doc:d2#view=yes doc:d2#viewer=yes folder:f1#see=yes folder:f2#owner=yes folder:f2#see=yes group:g1#member=yes group:g2#member=yes"},
		{"{}", "doc:d1#view@user:ann", deskTexts(), "doc:d1#edit=maybe doc:d1#owner=maybe doc:d1#read=maybe doc:d1#view=maybe doc:d2#folder=yes doc:d2#read=maybe doc:d2#view=maybe doc:d2#viewer=maybe"},
		{"{now:@10}", "doc:d1#view@user:ann", deskTexts(), "doc:d2#folder=yes doc:d2#read=maybe doc:d2#view=maybe doc:d2#viewer=maybe"},
		{"{now:@10}", "doc:d1#view@user:cy", deskTexts(), "doc:d1#banned=yes doc:d2#read=maybe doc:d2#view=maybe doc:d2#viewer=maybe"},
		{"{}", "doc:d1#view@folder:f1", deskTexts(), "doc:d1#folder=yes doc:d2#folder=yes folder:f2#parent=yes"},
		{"{}", "doc:d1#view@folder:f9", deskTexts(), "doc:d2#folder=yes"},
		{"{}", "doc:d1#view@folder:f9#see", deskTexts(), ""},
		{"{}", "doc:d1#view@group:g1#member", deskTexts(), "doc:d1#read=yes doc:d1#view=yes doc:d2#folder=yes doc:d2#read=yes doc:d2#view=yes doc:d2#viewer=yes folder:f1#see=yes folder:f2#owner=yes folder:f2#see=yes group:g1#member=yes group:g2#member=yes"},
	} {
		list := tuplesOf(c.tuples...)
		if got := factsText(impl.FactsOf(s, list, askOf(c.ask), givenOf(c.given))); got != c.want {
			t.Errorf("FactsOf %s for %s: got %s, want %s", c.tuples, c.ask, got, c.want)
		}
		askAgreement(t, s, list, askOf(c.ask), givenOf(c.given))
	}
}

// By Type, then by Id, then by Name, relations and permissions among each other, all by bytes.
func TestTheOrderOfFacts(t *testing.T) {
	s := relOf("type A", " relation b: u", " relation c: u", " permission B = b", " permission a = b", " permission bb = b", " permission d = c", "type Aa", " relation b: u", "type a", " relation z: u", " permission Z = z", "type u")
	list := tuplesOf("A:-#b@u:u", "A:0#c@u:u", "A:A#b@u:u", "A:a#b@u:u", "A:a#c@u:u", "A:a-#b@u:u", "A:aa#b@u:u", "Aa:-#b@u:u", "a:-#z@u:u", "a:B#z@u:u")
	want := "A:-#B=yes A:-#a=yes A:-#b=yes A:-#bb=yes A:0#c=yes A:0#d=yes A:A#B=yes A:A#a=yes A:A#b=yes A:A#bb=yes A:a#B=yes A:a#a=yes A:a#b=yes A:a#bb=yes A:a#c=yes A:a#d=yes A:a-#B=yes A:a-#a=yes A:a-#b=yes A:a-#bb=yes A:aa#B=yes A:aa#a=yes A:aa#b=yes A:aa#bb=yes Aa:-#b=yes a:-#Z=yes a:-#z=yes a:B#Z=yes a:B#z=yes"
	a := askOf("A:a#a@u:u")
	if got := factsText(impl.FactsOf(s, list, a, recordValue(nil))); got != want {
		t.Errorf("got %s, want %s", got, want)
	}
	askAgreement(t, s, list, a, recordValue(nil))
	a = askOf("A:q#a@u:u")
	if got := factsText(impl.ObjectsOf(s, list, a, recordValue(nil))); got != "A:-#a=yes A:A#a=yes A:a#a=yes A:a-#a=yes A:aa#a=yes" {
		t.Errorf("ObjectsOf: got %s", got)
	}
	list = tuplesOf("A:x#b@u:-", "A:x#b@u:0", "A:x#b@u:A", "A:x#b@u:a", "A:x#b@u:a-", "A:x#b@u:aa")
	a = askOf("A:x#a@u:q")
	if got := factsText(impl.SubjectsOf(s, list, a, recordValue(nil))); got != "u:-#a=yes u:0#a=yes u:A#a=yes u:a#a=yes u:a-#a=yes u:aa#a=yes" {
		t.Errorf("SubjectsOf: got %s", got)
	}
}

// supportCase has facts, and whether they are supported.
type supportCase struct {
	ask   string
	facts string
	want  bool
}

func askSupport(t *testing.T, s impl.RelSchema, texts []string, cases []supportCase) {
	t.Helper()
	list := tuplesOf(texts...)
	for _, c := range cases {
		if got := impl.Supported(s, list, askOf(c.ask), recordValue(nil), factsOf(c.facts)); got != c.want {
			t.Errorf("%s for %s by %s: got %v", c.facts, c.ask, texts, got)
		}
		if got := supportedByWords(s, list, askOf(c.ask), recordValue(nil), factsOf(c.facts)); got != c.want {
			t.Errorf("%s for %s by %s, by words: got %v", c.facts, c.ask, texts, got)
		}
	}
}

func TestSupported(t *testing.T) {
	s := desks()
	askSupport(t, s, []string{"doc:d1#banned@user:ann[fresh:{}]", "doc:d1#owner@user:ann"}, []supportCase{
		{"doc:d1#view@user:ann", "doc:d1#banned=maybe doc:d1#edit=maybe doc:d1#owner=yes doc:d1#read=maybe doc:d1#view=maybe", true},
		{"doc:d2#view@user:ann", "doc:d1#banned=maybe doc:d1#edit=maybe doc:d1#owner=yes doc:d1#read=maybe doc:d1#view=maybe", true},
		{"doc:d1#view@user:bob", "doc:d1#banned=maybe doc:d1#edit=maybe doc:d1#owner=yes doc:d1#read=maybe doc:d1#view=maybe", false},
		{"doc:d1#view@user:bob", "", true},
		{"doc:d1#view@user:ann", "", false},
		// One is lacking.
		{"doc:d1#view@user:ann", "doc:d1#edit=maybe doc:d1#owner=yes doc:d1#read=maybe doc:d1#view=maybe", false},
		{"doc:d1#view@user:ann", "doc:d1#banned=maybe doc:d1#owner=yes doc:d1#read=maybe doc:d1#view=maybe", false},
		{"doc:d1#view@user:ann", "doc:d1#banned=maybe doc:d1#edit=maybe doc:d1#owner=yes doc:d1#read=maybe", false},
		// One has another value.
		{"doc:d1#view@user:ann", "doc:d1#banned=yes doc:d1#edit=maybe doc:d1#owner=yes doc:d1#read=maybe doc:d1#view=maybe", false},
		{"doc:d1#view@user:ann", "doc:d1#banned=yes doc:d1#owner=yes", false},
		{"doc:d1#view@user:ann", "doc:d1#banned=maybe doc:d1#edit=yes doc:d1#owner=yes doc:d1#read=yes doc:d1#view=maybe", false},
		{"doc:d1#view@user:ann", "doc:d1#banned=maybe doc:d1#edit=maybe doc:d1#owner=yes doc:d1#read=maybe doc:d1#view=yes", false},
		{"doc:d1#view@user:ann", "doc:d1#banned=maybe doc:d1#edit=maybe doc:d1#owner=maybe doc:d1#read=maybe doc:d1#view=maybe", false},
		// They do not rise.
		{"doc:d1#view@user:ann", "doc:d1#edit=maybe doc:d1#banned=maybe doc:d1#owner=yes doc:d1#read=maybe doc:d1#view=maybe", false},
		{"doc:d1#view@user:ann", "doc:d1#banned=maybe doc:d1#edit=maybe doc:d1#owner=yes doc:d1#read=maybe doc:d1#view=maybe doc:d1#view=maybe", false},
		{"doc:d1#view@user:ann", "doc:d1#banned=maybe doc:d1#edit=maybe doc:d1#owner=yes doc:d1#read=maybe doc:d1#view=yes doc:d1#view=maybe", false},
		{"doc:d1#view@user:ann", "doc:d1#view=maybe doc:d1#banned=maybe doc:d1#edit=maybe doc:d1#owner=yes doc:d1#read=maybe", false},
		// They hold a No, or what is no value.
		{"doc:d1#view@user:ann", "doc:d1#banned=maybe doc:d1#edit=maybe doc:d1#folder=no doc:d1#owner=yes doc:d1#read=maybe doc:d1#view=maybe", false},
		{"doc:d1#view@user:ann", "doc:d1#banned=maybe doc:d1#edit=maybe doc:d1#folder=3 doc:d1#owner=yes doc:d1#read=maybe doc:d1#view=maybe", false},
		{"doc:d1#view@user:ann", "doc:d1#banned=maybe doc:d1#edit=maybe doc:d1#owner=-1 doc:d1#read=maybe doc:d1#view=maybe", false},
		{"doc:d1#view@user:bob", "doc:d1#folder=no", false},
		// A name too many, or an object.
		{"doc:d1#view@user:ann", "doc:d1#banned=maybe doc:d1#edit=maybe doc:d1#owner=yes doc:d1#read=maybe doc:d1#see=yes doc:d1#view=maybe", false},
		{"doc:d1#view@user:ann", "doc:d1#banned=maybe doc:d1#edit=maybe doc:d1#owner=yes doc:d1#read=maybe doc:d1#view=maybe doc:d2#owner=yes", false},
		{"doc:d1#view@user:ann", "doc:d1#banned=maybe doc:d1#edit=maybe doc:d1#owner=yes doc:d1#read=maybe doc:d1#view=maybe user:ann#member=yes", false},
		{"doc:d1#view@user:bob", "doc:d1#viewer=yes", false},
		{"doc:d1#view@user:bob", "group:g#member=yes", false},
		{"group:g#member@user:bob", "group:g#member=yes", false},
	})
}

// Facts may uphold each other alone: no word asks for the least ones.
func TestFactsThatUpholdEachOther(t *testing.T) {
	s := desks()
	askSupport(t, s, []string{"group:g#member@group:h#member", "group:h#member@group:g#member"}, []supportCase{
		{"group:g#member@user:ann", "", true},
		{"group:g#member@user:ann", "group:g#member=yes group:h#member=yes", true},
		{"group:g#member@user:ann", "group:g#member=maybe group:h#member=maybe", true},
		{"group:g#member@user:ann", "group:g#member=maybe group:h#member=yes", false},
		{"group:g#member@user:ann", "group:g#member=yes", false},
		{"group:g#member@user:ann", "group:h#member=yes group:g#member=yes", false},
		{"group:g#member@user:ann", "group:g#member=3 group:h#member=3", false},
		{"group:g#member@user:ann", "group:g#member=-1 group:h#member=-1", false},
		{"group:g#member@user:ann", "group:g#member=no group:h#member=no", false},
		{"group:g#member@group:g#member", "group:g#member=yes group:h#member=yes", true},
		{"group:g#member@group:g#member", "", false},
		{"group:g#member@group:g#member", "group:g#member=maybe group:h#member=maybe", false},
	})
	askSupport(t, s, []string{"folder:f#parent@folder:f"}, []supportCase{
		{"folder:f#see@user:ann", "folder:f#see=yes", true},
		{"folder:f#see@user:ann", "folder:f#see=maybe", true},
		{"folder:f#see@user:ann", "folder:f#see=7", false},
		{"folder:f#see@user:ann", "folder:f#owner=yes folder:f#see=yes", false},
		{"folder:f#see@folder:f", "folder:f#parent=yes folder:f#see=yes", true},
		{"folder:f#see@folder:f", "folder:f#see=yes", false},
	})
	askSupport(t, s, []string{"group:g#member@group:h#member", "group:h#member@group:g#member", "group:h#member@user:ann[fresh:{}]"}, []supportCase{
		{"group:g#member@user:ann", "group:g#member=maybe group:h#member=maybe", true},
		{"group:g#member@user:ann", "group:g#member=yes group:h#member=yes", true},
		{"group:g#member@user:ann", "", false},
	})
}

// Where a permission is what it names itself its object alone decides whether a fact may tell of it.
func TestObjectsThatFactsMayTellOf(t *testing.T) {
	s := relOf("type a", " relation r: a | a:* | b#p", " permission p = p", " permission s = t", " permission t = s", "type b", " permission p = p", "type c", " permission p = p")
	askSupport(t, s, []string{"a:x#r@a:*", "a:x#r@a:y", "a:x#r@b:z#p"}, []supportCase{
		{"a:x#p@c:c", "", true},
		{"a:x#p@c:c", "a:x#p=yes", true},
		{"a:x#p@c:c", "a:y#p=yes", true},
		{"a:x#p@c:c", "a:y#p=maybe", true},
		{"a:x#p@c:c", "a:x#p=maybe a:y#p=yes", true},
		{"a:x#p@c:c", "b:z#p=yes", false},
		{"a:x#p@c:c", "a:x#r=yes b:z#p=yes", true},
		{"a:x#p@c:c", "a:x#r=yes b:z#p=maybe", false},
		{"a:x#p@c:c", "a:x#r=maybe b:z#p=maybe", true},
		// The asked object, that stands in no tuple.
		{"a:w#p@c:c", "a:w#p=yes", true},
		{"a:x#p@c:c", "a:w#p=yes", false},
		{"c:c#p@c:d", "c:c#p=yes", true},
		{"c:c#p@c:d", "c:d#p=yes", false},
		{"a:x#p@c:c", "c:c#p=yes", false},
		// `*` is no object, and what is none has no names.
		{"a:x#p@c:c", "a:*#p=yes", false},
		{"a:x#p@c:c", "a:z#p=yes", false},
		{"a:x#p@c:c", "b:x#p=yes", false},
		{"a:x#p@c:c", "a:x#p=yes a:x#q=yes", false},
		// Names that uphold each other.
		{"a:x#p@c:c", "a:x#s=yes a:x#t=yes", true},
		{"a:x#p@c:c", "a:x#s=yes", false},
		{"a:x#p@c:c", "a:x#s=yes a:x#t=maybe", false},
		{"a:x#p@c:c", "a:x#s=3 a:x#t=3", false},
		{"a:x#p@c:c", "a:x#p=3", false},
		{"a:x#p@c:c", "a:x#p=-1", false},
		{"a:x#p@c:c", "a:x#p=0", false},
	})
}

// Each list of facts over a few names, supported or not, as the words say.
func TestAllSmallFacts(t *testing.T) {
	s := relOf("caveat c(n num): n == 1", "type g", " relation m: g#m | u | u with c", " relation n: g#m", " permission v = m - n", "type u")
	for _, texts := range [][]string{
		nil,
		{"g:a#m@g:a#m"},
		{"g:a#m@g:b#m", "g:b#m@g:a#m"},
		{"g:a#m@g:b#m", "g:b#m@g:a#m", "g:b#m@u:u[c:{}]"},
		{"g:a#m@g:b#m", "g:a#n@g:b#m", "g:b#m@u:u"},
		{"g:a#m@u:u", "g:b#n@g:a#m", "g:b#n@g:b#m"},
	} {
		list, a := tuplesOf(texts...), askOf("g:a#v@u:u")
		for number := range 729 {
			var facts []impl.Fact
			for i, own := range []string{"g:a#m", "g:a#n", "g:a#v", "g:b#m", "g:b#n", "g:b#v"} {
				if value := number / []int{1, 3, 9, 27, 81, 243}[i] % 3; value != impl.No {
					facts = append(facts, factsOf(own+"="+wordsOfValues[value])...)
				}
			}
			want := supportedByWords(s, list, a, recordValue(nil), facts)
			if got := impl.Supported(s, list, a, recordValue(nil), facts); got != want {
				t.Errorf("%s by %s: got %v", factsText(facts), texts, got)
			}
		}
	}
}

func TestSubjectsOf(t *testing.T) {
	s := desks()
	for _, c := range []struct {
		given, ask string
		tuples     []string
		want       string
	}{
		{"{}", "doc:d#view@user:q", nil, ""},
		{"{}", "doc:d#view@user:q", []string{"doc:d#owner@user:ann", "doc:d#viewer@user:bob"}, "user:ann#view=yes user:bob#view=yes"},
		{"{}", "doc:d#view@user:ann", []string{"doc:d#owner@user:ann", "doc:d#viewer@user:bob"}, "user:ann#view=yes user:bob#view=yes"},
		{"{}", "doc:d#edit@user:q", []string{"doc:d#owner@user:ann", "doc:d#viewer@user:bob"}, "user:ann#edit=yes"},
		{"{}", "doc:e#view@user:q", []string{"doc:d#owner@user:ann", "doc:d#viewer@user:bob"}, ""},
		{"{}", "doc:d#view@user:q", []string{"doc:d#viewer@user:*"}, "user:*#view=yes"},
		{"{}", "doc:d#view@user:q", []string{"doc:d#banned@user:bob", "doc:d#banned@user:cy[fresh:{}]", "doc:d#viewer@user:*", "doc:d#viewer@user:ann"}, "user:ann#view=yes user:cy#view=maybe user:*#view=yes"},
		{"{}", "doc:d#view@user:q", []string{"doc:d#viewer@user:*[near:{}]", "doc:d#viewer@user:ann"}, "user:ann#view=yes user:*#view=maybe"},
		{"{from:11.0.0.0/8}", "doc:d#view@user:q", []string{"doc:d#viewer@user:*[near:{}]", "doc:d#viewer@user:ann"}, "user:ann#view=yes"},
		{"{}", "doc:d#view@user:q", []string{"doc:d#banned@user:*", "doc:d#viewer@user:*", "doc:d#viewer@user:ann"}, ""},
		// An id that stands for another object, and one with a SubRel.
		{"{}", "doc:d#view@user:q", []string{"doc:d#viewer@user:*", "doc:e#owner@user:bob"}, "user:bob#view=yes user:*#view=yes"},
		{"{}", "doc:d#view@group:q", []string{"doc:d#viewer@group:g#member"}, ""},
		{"{}", "doc:d#view@group:g#member", []string{"doc:d#viewer@group:g#member"}, ""},
		{"{}", "doc:d#view@user:q", []string{"doc:d#viewer@group:g#member", "group:g#member@group:h#member", "group:h#member@user:*", "group:h#member@user:ann"}, "user:ann#view=yes user:*#view=yes"},
		{"{}", "doc:d#view@user:q", []string{"doc:d#viewer@group:g#member", "group:g#member@user:ann[fresh:{}]", "group:g#member@user:bob"}, "user:ann#view=maybe user:bob#view=yes"},
		{"{}", "doc:d#folder@folder:q", []string{"doc:d#folder@folder:*", "doc:d#folder@folder:a#see", "doc:d#folder@folder:b", "doc:d#folder@user:c"}, "folder:b#folder=yes folder:*#folder=yes"},
		{"{}", "doc:d#folder@user:q", []string{"doc:d#folder@folder:*", "doc:d#folder@folder:a#see", "doc:d#folder@folder:b", "doc:d#folder@user:c"}, "user:c#folder=yes"},
		{"{}", "doc:d#folder@doc:q", []string{"doc:d#folder@folder:*", "doc:d#folder@folder:a#see", "doc:d#folder@folder:b", "doc:d#folder@user:c"}, ""},
		// The ask's own SubRel counts for nothing, but it must be one.
		{"{}", "doc:d#folder@folder:q#see", []string{"doc:d#folder@folder:*", "doc:d#folder@folder:b"}, "folder:b#folder=yes folder:*#folder=yes"},
		{"{}", "doc:d#folder@folder:b#owner", []string{"doc:d#folder@folder:b", "folder:b#owner@user:c"}, "folder:b#folder=yes"},
		{"{now:@3}", "doc:d1#view@user:q", deskTexts(), "user:ann#view=yes user:bob#view=yes"},
		{"{}", "doc:d2#view@user:q", deskTexts(), "user:ann#view=maybe user:bob#view=yes user:cy#view=maybe user:*#view=maybe"},
	} {
		list := tuplesOf(c.tuples...)
		if got := factsText(impl.SubjectsOf(s, list, askOf(c.ask), givenOf(c.given))); got != c.want {
			t.Errorf("SubjectsOf %s for %s: got %s, want %s", c.tuples, c.ask, got, c.want)
		}
		askAgreement(t, s, list, askOf(c.ask), givenOf(c.given))
	}
}

func TestObjectsOf(t *testing.T) {
	s := desks()
	for _, c := range []struct {
		given, ask string
		tuples     []string
		want       string
	}{
		{"{}", "doc:q#view@user:ann", nil, ""},
		{"{}", "doc:d1#view@user:ann", []string{"doc:d1#owner@user:ann", "doc:d2#owner@user:bob", "doc:d3#viewer@user:*"}, "doc:d1#view=yes doc:d3#view=yes"},
		{"{}", "doc:q#view@user:ann", []string{"doc:d1#owner@user:ann", "doc:d2#owner@user:bob", "doc:d3#viewer@user:*"}, "doc:d1#view=yes doc:d3#view=yes"},
		{"{}", "doc:q#owner@user:ann", []string{"doc:d1#owner@user:ann", "doc:d2#owner@user:bob", "doc:d3#viewer@user:*"}, "doc:d1#owner=yes"},
		{"{}", "doc:q#view@user:ann", []string{"doc:d1#owner@user:ann[fresh:{}]", "doc:d2#banned@user:ann", "doc:d2#owner@user:ann"}, "doc:d1#view=maybe"},
		// Ids that stand as subjects.
		{"{}", "folder:q#see@user:ann", []string{"doc:d#folder@folder:*", "doc:d#folder@folder:a", "doc:d#folder@folder:b#see", "folder:c#parent@folder:e"}, ""},
		{"{}", "folder:q#see@user:ann", []string{"doc:d#folder@folder:a", "doc:d#viewer@folder:b#see", "folder:a#owner@user:ann", "folder:b#owner@user:ann", "folder:c#parent@folder:a"}, "folder:a#see=yes folder:b#see=yes folder:c#see=yes"},
		{"{}", "group:q#member@user:bob", deskTexts(), "group:g1#member=yes group:g2#member=yes"},
		{"{}", "folder:q#see@user:bob", deskTexts(), "folder:f1#see=yes folder:f2#see=yes"},
		{"{}", "doc:q#view@user:bob", deskTexts(), "doc:d1#view=yes doc:d2#view=yes"},
		{"{}", "doc:q#view@user:cy", deskTexts(), "doc:d2#view=maybe"},
		{"{}", "doc:q#folder@folder:f1#see", deskTexts(), "doc:d2#folder=yes"},
		{"{}", "doc:q#folder@folder:f1", deskTexts(), "doc:d1#folder=yes doc:d2#folder=yes"},
	} {
		list := tuplesOf(c.tuples...)
		if got := factsText(impl.ObjectsOf(s, list, askOf(c.ask), givenOf(c.given))); got != c.want {
			t.Errorf("ObjectsOf %s for %s: got %s, want %s", c.tuples, c.ask, got, c.want)
		}
		askAgreement(t, s, list, askOf(c.ask), givenOf(c.given))
	}
}

func TestExpandText(t *testing.T) {
	s := relOf(
		"caveat c(n num, t text): n == 1 && t == \"\"",
		"type doc",
		" relation none: user",
		" relation own: group#all with c | user | user with c | user:*",
		" relation up: doc | doc:* | doc#own | group | user",
		" permission a = nil",
		" permission b = own",
		" permission c = own + up->b",
		" permission d = own & nil - (b + none)",
		" permission e = e",
		" permission f = g + own",
		" permission g = f - none",
		" permission h = up->h",
		" permission i = up->all",
		" permission j = b + b",
		"type group",
		" relation all: user",
		"type user",
	)
	texts := []string{
		"doc:1#own@group:g#all[c:{t:\"@,\"}]", "doc:1#own@user:*", "doc:1#own@user:ann", "doc:1#own@user:bob[c:{n:3}]",
		"doc:1#up@doc:*", "doc:1#up@doc:1", "doc:1#up@doc:2", "doc:1#up@doc:2#own", "doc:1#up@group:g", "doc:1#up@user:u",
		"doc:2#own@user:cy", "doc:2#up@doc:1", "group:g#all@user:u",
	}
	const first, second = "doc:1#own{group:g#all[c:{t:\"@,\"}],user:*,user:ann,user:bob[c:{n:3}]}", "doc:2#own{user:cy}"
	list := tuplesOf(texts...)
	if !impl.GoodTuples(s, list) {
		t.Fatalf("want good tuples")
	}
	for own, want := range map[string]string{
		"doc:1#none":  "doc:1#none{}",
		"doc:3#own":   "doc:3#own{}",
		"doc:1#own":   first,
		"doc:2#own":   second,
		"doc:1#up":    "doc:1#up{doc:*,doc:1,doc:2,doc:2#own,group:g,user:u}",
		"group:g#all": "group:g#all{user:u}",
		"doc:1#a":     "doc:1#a(nil)",
		"doc:9#a":     "doc:9#a(nil)",
		"doc:1#b":     "doc:1#b(" + first + ")",
		"doc:2#c":     "doc:2#c((" + second + " + up->b[doc:1#b(" + first + ")]))",
		"doc:1#c":     "doc:1#c((" + first + " + up->b[doc:1#b(" + first + "),doc:2#b(" + second + ")]))",
		"doc:3#c":     "doc:3#c((doc:3#own{} + up->b[]))",
		"doc:2#d":     "doc:2#d(((" + second + " & nil) - (doc:2#b(" + second + ") + doc:2#none{})))",
		"doc:1#e":     "doc:1#e(doc:1#e..)",
		"doc:2#f":     "doc:2#f((doc:2#g((doc:2#f.. - doc:2#none{})) + " + second + "))",
		"doc:2#g":     "doc:2#g((doc:2#f((doc:2#g.. + " + second + ")) - doc:2#none{}))",
		"doc:1#h":     "doc:1#h(up->h[doc:1#h..,doc:2#h(up->h[doc:1#h..])])",
		"doc:2#h":     "doc:2#h(up->h[doc:1#h(up->h[doc:1#h..,doc:2#h..])])",
		"doc:1#i":     "doc:1#i(up->all[group:g#all{user:u}])",
		"doc:2#i":     "doc:2#i(up->all[])",
		"doc:2#j":     "doc:2#j((doc:2#b(" + second + ") + doc:2#b(" + second + ")))",
	} {
		object, name, _ := strings.Cut(own, "#")
		typ, id, _ := strings.Cut(object, ":")
		if got := impl.ExpandText(s, list, typ, id, name); got != want {
			t.Errorf("ExpandText of %s: got %s, want %s", own, got, want)
		}
		if got := expandByWords(s, list, typ, id, name); got != want {
			t.Errorf("ExpandText of %s by words: got %s, want %s", own, got, want)
		}
	}
}

// longTuples are tuples of one relation whose text, without a name ahead of it, has so many bytes, from 10000 to 30000.
func longTuples(length int) []impl.Tuple {
	var list []impl.Tuple
	left := length - len("{}") + len(",")
	for i := 0; left > 0; i++ {
		t := tupleOf("a:a#r@a:" + strconv.Itoa(1000+i) + "[c:{t:\"\"}]")
		bare := len("a:1000[c:{t:\"\"}],")
		// The last one takes what is left, and the one ahead of it leaves enough for it.
		room := min(left-bare, 200)
		if rest := left - bare - room; rest > 0 && rest < bare {
			room -= bare - rest
		}
		t.Given.Items[0] = textAtom(strings.Repeat("x", room))
		list, left = append(list, t), left-bare-room
	}
	return list
}

func TestTheLimitOfExpandText(t *testing.T) {
	s := relOf("caveat c(t text): t == \"\"", "type a", " relation r: a with c", " relation s: a", " permission p = r", " permission q = nil + (r & r)", " permission t = s->r")
	for _, c := range []struct {
		name string
		text func(within string) string
		more []string
	}{
		{"r", func(within string) string { return within }, nil},
		{"p", func(within string) string { return "a:a#p(" + within + ")" }, nil},
		{"q", func(within string) string { return "a:a#q((nil + (" + within + " & " + within + ")))" }, nil},
		{"t", func(within string) string { return "a:a#t(s->r[" + within + "])" }, []string{"a:a#s@a:a"}},
		{"t", func(within string) string { return "a:a#t(s->r[" + within + ",a:b#r{}])" }, []string{"a:a#s@a:a", "a:a#s@a:b"}},
	} {
		for _, length := range []int{19998, 19999, 20000, 20001, 20002} {
			around := len(c.text(""))
			times := 1
			if c.name == "q" {
				times = 2
			}
			if (length-around)%times != 0 {
				length++
			}
			within := (length - around) / times
			list := append(longTuples(within-len("a:a#r")), tuplesOf(c.more...)...)
			if !impl.GoodTuples(s, list) {
				t.Fatalf("%s of %d bytes: want good tuples", c.name, length)
			}
			words := &wordCheck{schema: s, list: list}
			whole := c.text(words.expandNameByWords("a:a", "r", nil))
			if len(whole) != length {
				t.Fatalf("%s: the text has %d bytes, want %d", c.name, len(whole), length)
			}
			if length > 20000 {
				whole = ""
			}
			if got := impl.ExpandText(s, list, "a", "a", c.name); got != whole {
				t.Errorf("%s of %d bytes: got %d", c.name, length, len(got))
			}
		}
	}
}

// Texts that would never end are empty, and soon.
func TestTextsThatGrowBeyondBounds(t *testing.T) {
	s := desks()
	for _, many := range []int{6, 7, 12} {
		list := loopedFolders(many)
		if got := impl.ExpandText(s, list, "folder", "f10", "see"); got != "" {
			t.Errorf("%d folders in each other: got %d bytes", many, len(got))
		}
	}
	for _, many := range []int{1, 2, 3, 4, 5} {
		list := loopedFolders(many)
		if got, want := impl.ExpandText(s, list, "folder", "f10", "see"), expandByWords(s, list, "folder", "f10", "see"); got != want || want == "" {
			t.Errorf("%d folders in each other: got %s, want %s", many, got, want)
		}
	}
	lines := []string{"type a", " relation r: a"}
	for i := range 11 {
		next := "p" + strconv.Itoa(11+i)
		lines = append(lines, " permission p"+strconv.Itoa(10+i)+" = "+next+" + "+next+" + "+next)
	}
	lines = append(lines, " permission p21 = r")
	s = relOf(lines...)
	for i := range 12 {
		name := "p" + strconv.Itoa(10+i)
		got := impl.ExpandText(s, nil, "a", "a", name)
		if i >= 3 && got != expandByWords(s, nil, "a", "a", name) || i < 3 && got != "" {
			t.Errorf("%s: got %d bytes", name, len(got))
		}
	}
	long := chainedFolders(impl.MaxTuples)
	if got, want := impl.ExpandText(desks(), long, "folder", "f1000", "see"), expandByWords(desks(), long, "folder", "f1000", "see"); got != want || want == "" {
		t.Errorf("a chain of folders: got %d bytes, want %d", len(got), len(want))
	}
}

// Drawn schemas with drawn tuples: all that is told has one meaning.
func TestDrawnChecks(t *testing.T) {
	from := drawn()
	values := map[int]int{}
	for range 700 {
		s := drawnGoodRel(from, false)
		list, a, given := drawnTuplesIn(from, s, from.Intn(14)), drawnAskIn(from, s), drawnGivenIn(from, s)
		if !isAskable(s, list, a, given) {
			t.Fatalf("what was drawn: want it good")
		}
		askAgreement(t, s, list, a, given)
		askCheckOfEach(t, s, list, a, given)
		for _, f := range impl.FactsOf(s, list, a, given) {
			values[f.Value]++
		}
		if got, want := impl.ExpandText(s, list, a.Type, a.Id, a.Name), expandByWords(s, list, a.Type, a.Id, a.Name); got != want {
			t.Errorf("ExpandText in %s of %s, %+v: got %s, want %s", relTextByWords(s), tuplesText(list), a, got, want)
		}
	}
	if values[impl.Yes] < 400 || values[impl.Maybe] < 50 {
		t.Errorf("values that were drawn: %v", values)
	}
}

// askCheckOfEach asks Check for each object and name of which FactsOf, ObjectsOf or SubjectsOf may tell.
func askCheckOfEach(t *testing.T, s impl.RelSchema, list []impl.Tuple, a impl.Ask, given impl.Value) {
	t.Helper()
	var facts []impl.Fact
	for _, object := range objectsByWords(list, a) {
		b := a
		b.Type, b.Id, _ = strings.Cut(object, ":")
		for _, name := range slices.Sorted(slices.Values(namesOfType(s, b.Type))) {
			b.Name = name
			if value := impl.Check(s, list, b, given); value != impl.No {
				facts = append(facts, impl.Fact{Type: b.Type, Id: b.Id, Name: name, Value: value})
			}
		}
	}
	if got := impl.FactsOf(s, list, a, given); !slices.Equal(got, facts) {
		t.Errorf("FactsOf %s, %+v: got %s, Check says %s", tuplesText(list), a, factsText(got), factsText(facts))
	}
	objects := slices.DeleteFunc(slices.Clone(facts), func(f impl.Fact) bool { return f.Type != a.Type || f.Name != a.Name })
	if got := impl.ObjectsOf(s, list, a, given); !slices.Equal(got, objects) {
		t.Errorf("ObjectsOf %s, %+v: got %s, Check says %s", tuplesText(list), a, factsText(got), factsText(objects))
	}
	told := map[string]int{}
	for _, f := range impl.SubjectsOf(s, list, a, given) {
		told[f.Id] = f.Value
	}
	stands := map[string]bool{}
	for _, t := range list {
		stands[t.SubType+":"+t.SubId+"#"+t.SubRel] = true
	}
	for _, id := range []string{"v", "w", "x", "y", "z"} {
		b := a
		b.SubId, b.SubRel = id, ""
		want := impl.Check(s, list, b, given)
		// Whoever stands nowhere has what `*` has.
		if !stands[a.SubType+":"+id+"#"] {
			id = "*"
		}
		if told[id] != want {
			t.Errorf("SubjectsOf %s, %+v: %s has %d, Check says %d", tuplesText(list), a, id, told[id], want)
		}
	}
}

// Drawn facts: those that FactsOf tells with one changed, and such as uphold each other.
func TestDrawnFacts(t *testing.T) {
	from := drawn()
	supported, others := 0, 0
	for range 400 {
		s := drawnGoodRel(from, false)
		list, a, given := drawnTuplesIn(from, s, 2+from.Intn(8)), drawnAskIn(from, s), drawnGivenIn(from, s)
		least := impl.FactsOf(s, list, a, given)
		for range 6 {
			facts := changedFacts(from, s, least, objectsByWords(list, a))
			want := supportedByWords(s, list, a, given, facts)
			if got := impl.Supported(s, list, a, given, facts); got != want {
				t.Errorf("%s by %s, %+v: got %v", factsText(facts), tuplesText(list), a, got)
			}
			if want {
				supported++
			}
			if want && !slices.Equal(facts, least) {
				others++
			}
		}
	}
	if supported < 100 || others < 20 {
		t.Errorf("drawn facts: %d are supported, %d of them are not what FactsOf tells", supported, others)
	}
}

// changedFacts gives some names other values, and keeps the order but now and then.
func changedFacts(from *rand.Rand, s impl.RelSchema, facts []impl.Fact, objects []string) []impl.Fact {
	values := map[string]int{}
	for _, f := range facts {
		values[strings.Join([]string{f.Type, f.Id, f.Name}, "\x01")] = f.Value
	}
	for range from.Intn(3) {
		typ, id, _ := strings.Cut(oneOf(from, objects), ":")
		values[strings.Join([]string{typ, id, oneOf(from, namesOfType(s, typ))}, "\x01")] = oneOf(from, []int{impl.Yes, impl.Yes, impl.Maybe, impl.No})
	}
	var keys []string
	for key, value := range values {
		if value != impl.No || from.Intn(20) == 0 {
			keys = append(keys, key)
		}
	}
	slices.Sort(keys)
	if len(keys) > 1 && from.Intn(20) == 0 {
		keys[0], keys[1] = keys[1], keys[0]
	}
	var out []impl.Fact
	for _, key := range keys {
		parts := strings.Split(key, "\x01")
		out = append(out, impl.Fact{Type: parts[0], Id: parts[1], Name: parts[2], Value: values[key]})
	}
	return out
}

// isNoLess says whether each name has at least the value that it had before.
func isNoLess(before []impl.Fact, after []impl.Fact) bool {
	counts := map[impl.Fact]int{}
	for _, f := range after {
		counts[impl.Fact{Type: f.Type, Id: f.Id, Name: f.Name}] = ranks[f.Value]
	}
	return !slices.ContainsFunc(before, func(f impl.Fact) bool {
		return counts[impl.Fact{Type: f.Type, Id: f.Id, Name: f.Name}] < ranks[f.Value]
	})
}

func TestMoreTuplesNeverGiveLess(t *testing.T) {
	from := drawn()
	risen := 0
	for range 400 {
		s := drawnGoodRel(from, true)
		a, given := drawnAskIn(from, s), drawnGivenIn(from, s)
		list := drawnTuplesIn(from, s, 12)
		fewer := slices.Clone(list)
		for range 1 + from.Intn(3) {
			if len(fewer) > 0 {
				at := from.Intn(len(fewer))
				fewer = slices.Delete(fewer, at, at+1)
			}
		}
		before, after := impl.FactsOf(s, fewer, a, given), impl.FactsOf(s, list, a, given)
		if !isNoLess(before, after) {
			t.Errorf("in %s: %s for %+v, and %s with %s", relTextByWords(s), tuplesText(fewer), a, factsText(before), factsText(after))
		}
		if !isNoLess(impl.SubjectsOf(s, fewer, a, given), impl.SubjectsOf(s, list, a, given)) {
			t.Errorf("SubjectsOf %s: less with more tuples", tuplesText(list))
		}
		if !isNoLess(impl.ObjectsOf(s, fewer, a, given), impl.ObjectsOf(s, list, a, given)) {
			t.Errorf("ObjectsOf %s: less with more tuples", tuplesText(list))
		}
		if value, more := impl.Check(s, fewer, a, given), impl.Check(s, list, a, given); ranks[value] > ranks[more] {
			t.Errorf("Check of %s: %d becomes %d", tuplesText(list), value, more)
		}
		if len(before) < len(after) {
			risen++
		}
	}
	if risen < 50 {
		t.Errorf("more was given %d times", risen)
	}
	// Where something is taken away more tuples may give less.
	s, a := desks(), askOf("doc:d#view@user:ann")
	if impl.Check(s, tuplesOf("doc:d#owner@user:ann"), a, recordValue(nil)) != impl.Yes || impl.Check(s, tuplesOf("doc:d#banned@user:*", "doc:d#owner@user:ann"), a, recordValue(nil)) != impl.No {
		t.Errorf("what is taken away: want no and yes")
	}
}

func TestWhatIsDecidedWithAPartStaysSo(t *testing.T) {
	from := drawn()
	open := 0
	for range 250 {
		s := drawnGoodRel(from, false)
		if len(s.Caveats) == 0 {
			continue
		}
		whole := drawnGiven(from, oneOf(from, s.Caveats).Params)
		list, a := drawnTuplesIn(from, s, 12), drawnAskIn(from, s)
		want := impl.Check(s, list, a, whole)
		subjects, objects := impl.SubjectsOf(s, list, a, whole), impl.ObjectsOf(s, list, a, whole)
		for bits := range 1 << len(whole.Names) {
			part := partOf(whole, bits)
			got := impl.Check(s, list, a, part)
			if got != impl.Maybe && got != want {
				t.Errorf("%s, %+v: %d with %s, %d with %s", tuplesText(list), a, got, impl.ValueText(part), want, impl.ValueText(whole))
			}
			if got == impl.Maybe && want != impl.Maybe {
				open++
			}
			if !isDecidedAs(impl.SubjectsOf(s, list, a, part), subjects) || !isDecidedAs(impl.ObjectsOf(s, list, a, part), objects) {
				t.Errorf("%s, %+v: what is told with %s is decided otherwise with %s", tuplesText(list), a, impl.ValueText(part), impl.ValueText(whole))
			}
		}
	}
	if open < 20 {
		t.Errorf("what was open with a part was decided %d times", open)
	}
}

// isDecidedAs says whether all that is decided is so with more as well, what is not told too.
func isDecidedAs(part []impl.Fact, whole []impl.Fact) bool {
	sure := func(f impl.Fact) bool { return f.Value == impl.Yes && !slices.Contains(whole, f) }
	news := func(f impl.Fact) bool {
		return !slices.ContainsFunc(part, func(g impl.Fact) bool { return f.Type == g.Type && f.Id == g.Id && f.Name == g.Name })
	}
	return !slices.ContainsFunc(part, sure) && !slices.ContainsFunc(whole, news)
}

// Each list of up to four tuples out of some that meet in loops, stars and what is taken away.
func TestAllSmallNetworks(t *testing.T) {
	s := relOf("caveat c(n num): n == 1", "type g", " relation m: g#m | u | u with c | u:*", " relation n: g | g#v", " permission v = m + n->m", " permission w = v - x", " permission x = n & m", "type u")
	texts := []string{"g:a#m@g:b#m", "g:a#m@u:*", "g:a#m@u:u[c:{}]", "g:a#n@g:a", "g:a#n@g:b", "g:a#n@g:b#v", "g:b#m@g:a#m", "g:b#m@u:u", "g:b#n@g:a#v"}
	for bits := range 1 << len(texts) {
		var some []string
		for i, text := range texts {
			if bits>>i&1 == 1 {
				some = append(some, text)
			}
		}
		if len(some) > 4 {
			continue
		}
		list := tuplesOf(some...)
		for _, ask := range []string{"g:a#w@u:u", "g:b#w@u:v", "g:a#x@g:b#v", "g:b#v@g:a"} {
			askAgreement(t, s, list, askOf(ask), recordValue(nil))
		}
	}
}

func TestChecksAtTheirLimits(t *testing.T) {
	s := desks()
	chain := append(chainedFolders(impl.MaxTuples-1), tupleOf("folder:f1149#owner@user:ann"))
	slices.SortFunc(chain, func(a, b impl.Tuple) int { return strings.Compare(placeKey(a), placeKey(b)) })
	if len(chain) != 150 || !impl.GoodTuples(s, chain) {
		t.Fatalf("a chain of %d: want a good list", len(chain))
	}
	a := askOf("folder:f1000#see@user:ann")
	if got := impl.Check(s, chain, a, recordValue(nil)); got != impl.Yes {
		t.Errorf("a long chain: got %d", got)
	}
	if got := impl.ObjectsOf(s, chain, a, recordValue(nil)); len(got) != 150 || got[149].Id != "f1149" {
		t.Errorf("ObjectsOf a long chain: got %d", len(got))
	}
	if got := impl.FactsOf(s, chain, a, recordValue(nil)); len(got) != 151 || !impl.Supported(s, chain, a, recordValue(nil), got) {
		t.Errorf("FactsOf a long chain: got %d", len(got))
	}
	if got := impl.Check(s, append(slices.Clone(chain), tupleOf("group:g#member@user:u")), a, recordValue(nil)); got != -1 {
		t.Errorf("one tuple too many: got %d", got)
	}
	looped := loopedFolders(12)
	looped = append(looped, tupleOf("group:g#member@user:u"))
	if got := impl.FactsOf(s, looped, a, recordValue(nil)); len(got) != 0 {
		t.Errorf("folders in each other: got %s", factsText(got))
	}
	var texts []string
	for i := range impl.MaxTuples {
		texts = append(texts, "doc:d#owner@user:u"+strconv.Itoa(1000+i))
	}
	if got := impl.SubjectsOf(s, tuplesOf(texts...), askOf("doc:d#view@user:q"), recordValue(nil)); len(got) != 150 || got[0].Id != "u1000" || got[149].Id != "u1149" {
		t.Errorf("SubjectsOf many: got %d", len(got))
	}
}

// ladderRel has permissions each of which is the next one, and the last one the first one of the parent.
func ladderRel() impl.RelSchema {
	lines := []string{"type folder", " relation owner: user", " relation parent: folder"}
	for i := range 11 {
		lines = append(lines, " permission p"+strconv.Itoa(10+i)+" = p"+strconv.Itoa(11+i))
	}
	return relOf(append(lines, " permission p21 = owner + parent->p10", "type user")...)
}

// The longest ways: twelve names at each of so many folders.
func TestLongWays(t *testing.T) {
	s := ladderRel()
	list := append(tuplesOf("folder:f1100#owner@user:ann"), chainedFolders(100)...)
	slices.SortFunc(list, func(a, b impl.Tuple) int { return strings.Compare(placeKey(a), placeKey(b)) })
	a := askOf("folder:f1000#p10@user:ann")
	if got := impl.Check(s, list, a, recordValue(nil)); got != impl.Yes {
		t.Errorf("got %d", got)
	}
	if got := impl.FactsOf(s, list, a, recordValue(nil)); len(got) != 101*12+1 {
		t.Errorf("got %d facts", len(got))
	}
	if got := impl.SubjectsOf(s, list, a, recordValue(nil)); factsText(got) != "user:ann#p10=yes" {
		t.Errorf("got %s", factsText(got))
	}
	// A schema at all its limits, with tuples that lead through many types.
	s = fullRel()
	var texts []string
	for i := range impl.MaxTuples {
		object := "t1" + strconv.Itoa(i%8)
		k := s.Types[i%8].Relations[i%12].Subjects[i%8]
		texts = append(texts, strings.TrimSuffix(object+":x#r"+strconv.Itoa(10+i%12)+"@"+k.Type+":x#"+k.Rel, "#"))
	}
	list = sortedTuples(texts...)
	a = askOf("t10:x#p10@t10:x")
	if !isAskable(s, list, a, recordValue(nil)) {
		t.Fatalf("a full schema: want it good")
	}
	askAgreement(t, s, list, a, recordValue(nil))
}

// What is told hangs on nothing but what was given: neither on maps nor on how goroutines run.
func TestChecksAnswerTheSameAgain(t *testing.T) {
	s := desks()
	list := sortedTuples(append(deskTexts(), "doc:d3#viewer@user:*", "doc:d4#folder@folder:f2", "folder:f3#parent@folder:f1", "group:g3#member@group:g1#member")...)
	a, given := askOf("doc:d1#view@user:bob"), givenOf("{now:@3}")
	facts, subjects, objects, text := impl.FactsOf(s, list, a, given), impl.SubjectsOf(s, list, a, given), impl.ObjectsOf(s, list, a, given), impl.ExpandText(s, list, "doc", "d1", "view")
	for range 300 {
		if !slices.Equal(impl.FactsOf(s, list, a, given), facts) || !slices.Equal(impl.SubjectsOf(s, list, a, given), subjects) || !slices.Equal(impl.ObjectsOf(s, list, a, given), objects) || impl.ExpandText(s, list, "doc", "d1", "view") != text {
			t.Fatalf("another answer to the same")
		}
	}
}

// isNothing says whether all functions of the chapter refuse what is asked.
func isNothing(s impl.RelSchema, list []impl.Tuple, a impl.Ask, given impl.Value, facts []impl.Fact) bool {
	return impl.Check(s, list, a, given) == -1 && len(impl.FactsOf(s, list, a, given)) == 0 && !impl.Supported(s, list, a, given, facts) &&
		len(impl.SubjectsOf(s, list, a, given)) == 0 && len(impl.ObjectsOf(s, list, a, given)) == 0
}

func TestChecksOfNoGoodOnes(t *testing.T) {
	s, list, a, given := desks(), tuplesOf(deskTexts()...), askOf("doc:d1#view@user:bob"), recordValue(nil)
	facts := impl.FactsOf(s, list, a, given)
	if isNothing(s, list, a, given, facts) || len(facts) == 0 {
		t.Fatalf("what is good: want an answer")
	}
	for i, bad := range badAsks() {
		if !isNothing(s, list, bad, given, facts) || !isNothing(s, nil, bad, given, nil) {
			t.Errorf("bad ask %d, %.100s: want nothing", i, shown(bad))
		}
	}
	for i, bad := range badGivens() {
		if !isNothing(s, list, a, bad, facts) || !isNothing(s, nil, a, bad, nil) {
			t.Errorf("bad given %d: want nothing", i)
		}
	}
	for i, bad := range badTupleLists() {
		if !isNothing(stores(), bad, askOf("doc:d1#view@user:ann"), given, nil) || impl.ExpandText(stores(), bad, "doc", "d1", "view") != "" {
			t.Errorf("bad list %d: want nothing", i)
		}
	}
	turned := slices.Clone(list)
	slices.Reverse(turned)
	if !isNothing(s, turned, a, given, facts) || impl.ExpandText(s, turned, "doc", "d1", "view") != "" {
		t.Errorf("a list that does not rise: want nothing")
	}
	for i, bad := range badRels() {
		if impl.GoodAsk(bad, a) || !isNothing(bad, nil, a, given, nil) || impl.ExpandText(bad, nil, "doc", "d1", "view") != "" || impl.ExpandText(bad, nil, "a", "a", "p") != "" {
			t.Errorf("bad schema %d: want nothing", i)
		}
	}
	for i, bad := range badFactLists() {
		if impl.Supported(s, list, a, given, bad) || impl.Supported(s, nil, a, given, bad) {
			t.Errorf("bad facts %d: want false", i)
		}
	}
}

func TestTextsOfNoGoodOnes(t *testing.T) {
	s, list := desks(), tuplesOf(deskTexts()...)
	if impl.ExpandText(s, list, "doc", "d1", "view") == "" {
		t.Fatalf("what is good: want a text")
	}
	for _, id := range append(badIds(), "*") {
		if got := impl.ExpandText(s, list, "doc", id, "view"); got != "" {
			t.Errorf("the id %.50q: got %s", id, got)
		}
	}
	for _, word := range append(badWords(), "other", "member", "see", "Doc", "nil", "fresh") {
		if got := impl.ExpandText(s, list, "doc", "d1", word); got != "" {
			t.Errorf("the name %.50q: got %s", word, got)
		}
		if got := impl.ExpandText(s, list, word, "d1", "view"); got != "" {
			t.Errorf("the type %.50q: got %s", word, got)
		}
	}
}
