package tests

import (
	"reflect"
	"slices"
	"strconv"
	"strings"
	"testing"

	"loop.example/g00036/impl"
)

func TestConstantsOfRelations(t *testing.T) {
	got := []int{impl.MaxRelTypes, impl.MaxRelations, impl.MaxSubjects, impl.MaxRewrites, impl.MaxCaveats, impl.MaxTerms, impl.MaxRelText}
	if !slices.Equal(got, []int{12, 12, 8, 30, 8, 6, 8000}) {
		t.Errorf("limits: got %d", got)
	}
	kinds := []int{impl.RewriteName, impl.RewriteArrow, impl.RewriteUnion, impl.RewriteMeet, impl.RewriteLess, impl.RewriteNil}
	ops := []int{impl.OpSame, impl.OpLess, impl.OpMost, impl.OpIn}
	if !slices.Equal(kinds, []int{1, 2, 3, 4, 5, 6}) || !slices.Equal(ops, []int{1, 2, 3, 4}) {
		t.Errorf("kinds and ops: got %d, %d", kinds, ops)
	}
}

func TestGoodCaveat(t *testing.T) {
	for _, g := range goodCaveats() {
		if !impl.GoodCaveat(g.caveat) || !goodCaveatByWords(g.caveat) {
			t.Errorf("GoodCaveat of %.200q: want true", g.text)
		}
	}
	for i, c := range badCaveats() {
		if impl.GoodCaveat(c) || goodCaveatByWords(c) {
			t.Errorf("bad caveat %d, %.300s: want false", i, shown(c))
		}
	}
}

func TestCaveatsAtTheirLimits(t *testing.T) {
	for params := range impl.MaxTerms + 2 {
		for terms := range impl.MaxTerms + 2 {
			want := isBetween(params, 1, impl.MaxTerms) && isBetween(terms, 1, impl.MaxTerms)
			if got := impl.GoodCaveat(caveatOf("c", countedParams(params), sameTerms(terms)...)); got != want {
				t.Errorf("%d params, %d terms: got %v", params, terms, got)
			}
		}
	}
}

// Each Op with each two kinds, the right side as a Param and as an atom.
func TestKindsThatOpsTake(t *testing.T) {
	atoms := atomsOfKinds()
	for op := -1; op <= 6; op++ {
		for left := 1; left <= 7; left++ {
			for right := 1; right <= 7; right++ {
				want := left == right && isBetween(op, 1, 4) && strings.Contains([]string{"", "1234567", "2357", "2357", "6"}[op], strconv.Itoa(left))
				params := []impl.Param{param("a", left), param("b", right)}
				if got := impl.GoodCaveat(caveatOf("c", params, paramTerm("a", op, "b"))); got != want {
					t.Errorf("kinds %d and %d by Op %d: got %v", left, right, op, got)
				}
				if got := impl.GoodCaveat(caveatOf("c", params, atomTerm("a", op, atoms[right][0]))); got != want {
					t.Errorf("kind %d and an atom of kind %d by Op %d: got %v", left, right, op, got)
				}
			}
		}
	}
}

func TestTermHolds(t *testing.T) {
	params := []impl.Param{param("a", impl.NumAtom), param("b", impl.NumAtom), param("t", impl.TextAtom), param("x", impl.AddrAtom), param("y", impl.AddrAtom), param("a", impl.TextAtom), param("o", 0), param("", impl.NumAtom)}
	given, _ := impl.ReadValue("{a:1,b:2,c:1,o:1,t:5,x:10.1.0.0/16,y:10.0.0.0/8}")
	for _, c := range []struct {
		term impl.CavTerm
		want int
	}{
		{atomTerm("a", impl.OpSame, numAtom(1)), impl.Yes},
		{atomTerm("a", impl.OpSame, numAtom(2)), impl.No},
		{atomTerm("a", impl.OpLess, numAtom(2)), impl.Yes},
		{atomTerm("a", impl.OpLess, numAtom(1)), impl.No},
		{atomTerm("a", impl.OpLess, numAtom(0)), impl.No},
		{atomTerm("a", impl.OpMost, numAtom(2)), impl.Yes},
		{atomTerm("a", impl.OpMost, numAtom(1)), impl.Yes},
		{atomTerm("a", impl.OpMost, numAtom(0)), impl.No},
		{atomTerm("a", impl.OpIn, numAtom(1)), impl.No},
		{paramTerm("a", impl.OpSame, "a"), impl.Yes},
		{paramTerm("a", impl.OpLess, "a"), impl.No},
		{paramTerm("a", impl.OpMost, "a"), impl.Yes},
		{paramTerm("a", impl.OpLess, "b"), impl.Yes},
		{paramTerm("b", impl.OpLess, "a"), impl.No},
		{paramTerm("b", impl.OpMost, "a"), impl.No},
		{paramTerm("a", impl.OpSame, "b"), impl.No},
		{paramTerm("x", impl.OpIn, "y"), impl.Yes},
		{paramTerm("y", impl.OpIn, "x"), impl.No},
		{paramTerm("x", impl.OpIn, "x"), impl.Yes},
		{atomTerm("x", impl.OpIn, addrAtom(11<<24, 8)), impl.No},
		// A value of another kind, one that is not given, one that is no Param's.
		{paramTerm("t", impl.OpSame, "t"), impl.Maybe},
		{paramTerm("a", impl.OpSame, "t"), impl.Maybe},
		{paramTerm("t", impl.OpSame, "a"), impl.Maybe},
		{atomTerm("t", impl.OpSame, textAtom("5")), impl.Maybe},
		{atomTerm("t", impl.OpSame, numAtom(5)), impl.Maybe},
		{paramTerm("c", impl.OpSame, "c"), impl.Maybe},
		{paramTerm("a", impl.OpSame, "c"), impl.Maybe},
		{atomTerm("c", impl.OpSame, numAtom(1)), impl.Maybe},
		{atomTerm("o", impl.OpSame, numAtom(1)), impl.Maybe},
		{atomTerm("z", impl.OpSame, numAtom(1)), impl.Maybe},
		{atomTerm("", impl.OpSame, numAtom(1)), impl.Maybe},
		{paramTerm("a", impl.OpSame, "1"), impl.Maybe},
		// Atoms of another kind: by Kind first.
		{atomTerm("a", impl.OpSame, decAtom(1)), impl.No},
		{atomTerm("a", impl.OpLess, decAtom(0)), impl.Yes},
		{atomTerm("a", impl.OpLess, boolAtom(1)), impl.No},
		{atomTerm("a", impl.OpMost, boolAtom(1)), impl.No},
		{atomTerm("a", impl.OpMost, textAtom("")), impl.Yes},
		{atomTerm("a", impl.OpIn, addrAtom(0, 0)), impl.No},
		{atomTerm("x", impl.OpIn, numAtom(1)), impl.No},
		// An atom that is not good.
		{atomTerm("a", impl.OpSame, impl.Atom{}), impl.No},
		{atomTerm("a", impl.OpLess, impl.Atom{}), impl.No},
		{atomTerm("a", impl.OpMost, impl.Atom{}), impl.No},
		{atomTerm("a", impl.OpMost, impl.Atom{Kind: 8}), impl.No},
		{atomTerm("a", impl.OpLess, timeAtom(impl.MaxTime+1)), impl.No},
		{atomTerm("a", impl.OpSame, impl.Atom{Kind: impl.NumAtom, Num: 1, Text: "a"}), impl.No},
		{atomTerm("x", impl.OpIn, addrAtom(1, 0)), impl.No},
		{atomTerm("x", impl.OpIn, addrAtom(0, 33)), impl.No},
		{atomTerm("c", impl.OpSame, impl.Atom{}), impl.Maybe},
		{atomTerm("t", impl.OpMost, impl.Atom{Kind: 8}), impl.Maybe},
		// What is no term.
		{impl.CavTerm{Left: "a", Op: impl.OpSame, Param: "a", Atom: numAtom(1)}, -1},
		{impl.CavTerm{Left: "a", Op: impl.OpSame, Param: "z", Atom: impl.Atom{Num: 1}}, -1},
		{impl.CavTerm{Left: "z", Op: impl.OpSame, Param: "a", Atom: impl.Atom{Text: " "}}, -1},
		{atomTerm("a", 0, numAtom(1)), -1},
		{atomTerm("a", 5, numAtom(1)), -1},
		{paramTerm("z", -1, "z"), -1},
	} {
		if got := impl.TermHolds(c.term, params, given); got != c.want || termByWords(c.term, params, given) != c.want {
			t.Errorf("TermHolds(%+v): got %d, want %d", c.term, got, c.want)
		}
	}
}

func TestOfTwoParamsTheFirstCounts(t *testing.T) {
	one, _ := impl.ReadValue("{a:1}")
	text, _ := impl.ReadValue("{a:\"1\"}")
	num, str := param("a", impl.NumAtom), param("a", impl.TextAtom)
	for _, c := range []struct {
		params []impl.Param
		given  impl.Value
		want   int
	}{
		{[]impl.Param{num, str}, one, impl.Yes},
		{[]impl.Param{str, num}, one, impl.Maybe},
		{[]impl.Param{num, str}, text, impl.Maybe},
		{[]impl.Param{str, num}, text, impl.Yes},
		{[]impl.Param{param("z", 3), param("b", 1), str, num, num}, one, impl.Maybe},
		{[]impl.Param{param("z", 3), param("b", 1), num, str, str}, one, impl.Yes},
		{nil, one, impl.Maybe},
		{[]impl.Param{param("A", impl.NumAtom), param("aa", impl.NumAtom)}, one, impl.Maybe},
	} {
		if got := impl.TermHolds(paramTerm("a", impl.OpSame, "a"), c.params, c.given); got != c.want {
			t.Errorf("TermHolds with %v of %s: got %d, want %d", c.params, impl.ValueText(c.given), got, c.want)
		}
	}
}

// All terms over few names, atoms and records.
func TestTermsByTheirWords(t *testing.T) {
	params := []impl.Param{param("a", impl.NumAtom), param("b", impl.AddrAtom), param("c", impl.TextAtom)}
	atoms := append(badAtoms()[:6], numAtom(0), numAtom(1), textAtom("x"), addrAtom(0, 0), addrAtom(0, 1), boolAtom(1), timeAtom(0))
	var records []impl.Value
	for _, a := range atoms[7:] {
		for _, b := range atoms[7:] {
			records = append(records, recordValue([]string{"a", "b", "c"}, a, b, a), recordValue([]string{"b"}, b), recordValue([]string{"a", "d"}, a, b))
		}
	}
	for _, given := range append(records, recordValue(nil), setValue(), impl.Value{}) {
		for op := 0; op <= 5; op++ {
			for _, left := range []string{"a", "b", "c", "d"} {
				for _, right := range []string{"a", "b", "c", "d"} {
					if term := paramTerm(left, op, right); impl.TermHolds(term, params, given) != termByWords(term, params, given) {
						t.Errorf("TermHolds(%+v) of %s: got %d", term, impl.ValueText(given), impl.TermHolds(term, params, given))
					}
				}
				for _, a := range atoms {
					if term := atomTerm(left, op, a); impl.TermHolds(term, params, given) != termByWords(term, params, given) {
						t.Errorf("TermHolds(%+v) of %s: got %d", term, impl.ValueText(given), impl.TermHolds(term, params, given))
					}
				}
			}
		}
	}
}

// Each order of terms that are No, Maybe and Yes.
func TestCaveatsAreDecidedByTheirTerms(t *testing.T) {
	given, _ := impl.ReadValue("{a:1}")
	params := []impl.Param{param("a", impl.NumAtom), param("b", impl.NumAtom)}
	terms := map[int]impl.CavTerm{impl.Yes: atomTerm("a", impl.OpSame, numAtom(1)), impl.No: atomTerm("a", impl.OpSame, numAtom(2)), impl.Maybe: atomTerm("b", impl.OpSame, numAtom(1))}
	for _, told := range textsOver("012", impl.MaxTerms) {
		c := caveatOf("c", params)
		for _, digit := range told {
			c.Terms = append(c.Terms, terms[int(digit-'0')])
		}
		want := impl.Yes
		switch {
		case told == "":
			want = -1
		case strings.Contains(told, "0"):
			want = impl.No
		case strings.Contains(told, "2"):
			want = impl.Maybe
		}
		if got := impl.CaveatHolds(c, given); got != want {
			t.Errorf("terms that are %s: got %d, want %d", told, got, want)
		}
	}
}

func TestCaveatHoldsOfNoGoodOnes(t *testing.T) {
	good, record := goodCaveats()[0].caveat, recordValue([]string{"now"}, timeAtom(9))
	if impl.CaveatHolds(good, record) != impl.Yes {
		t.Errorf("a good caveat and record: want Yes")
	}
	for i, c := range badCaveats() {
		if got := impl.CaveatHolds(c, record); got != -1 {
			t.Errorf("bad caveat %d: got %d", i, got)
		}
	}
	for _, v := range append(badValues(), setValue(), setValue(timeAtom(9)), atomValue(timeAtom(9))) {
		if got := impl.CaveatHolds(good, v); got != -1 {
			t.Errorf("CaveatHolds of %+v: got %d", v, got)
		}
		if got := impl.TermHolds(good.Terms[0], good.Params, v); got != -1 {
			t.Errorf("TermHolds of %+v: got %d", v, got)
		}
	}
}

// Promise 6: with each part of what is given, and with each greater part.
func TestWhatIsDecidedStaysSoWithMore(t *testing.T) {
	from := drawn()
	decided := map[int]int{}
	for range 4000 {
		c := drawnCaveat(from)
		given := drawnGiven(from, c.Params)
		all := 1 << len(given.Names)
		for bits := range all {
			got := impl.CaveatHolds(c, partOf(given, bits))
			if want := caveatByWords(c, partOf(given, bits)); got != want {
				t.Fatalf("CaveatHolds(%+v) of %s: got %d, want %d", c, impl.ValueText(partOf(given, bits)), got, want)
			}
			decided[got]++
			if got == impl.Maybe {
				continue
			}
			for more := range all {
				if later := impl.CaveatHolds(c, partOf(given, bits|more)); later != got {
					t.Fatalf("CaveatHolds(%+v): got %d of %s, and %d of %s", c, got, impl.ValueText(partOf(given, bits)), later, impl.ValueText(partOf(given, bits|more)))
				}
			}
		}
	}
	for _, truth := range truths {
		if decided[truth] < 1000 {
			t.Errorf("only %d caveats were %d", decided[truth], truth)
		}
	}
}

// sameRel takes the empty list and the nil list as the same.
func sameRel(a impl.RelSchema, b impl.RelSchema) bool {
	sameCaveats := slices.EqualFunc(a.Caveats, b.Caveats, func(c, d impl.Caveat) bool {
		return c.Name == d.Name && slices.Equal(c.Params, d.Params) && slices.Equal(c.Terms, d.Terms)
	})
	return sameCaveats && slices.EqualFunc(a.Types, b.Types, func(t, u impl.RelType) bool {
		return t.Name == u.Name && slices.EqualFunc(t.Relations, u.Relations, func(r, s impl.Relation) bool {
			return r.Name == s.Name && slices.Equal(r.Subjects, s.Subjects)
		}) && slices.EqualFunc(t.Permissions, u.Permissions, func(p, q impl.Permission) bool {
			return p.Name == q.Name && slices.Equal(p.Body, q.Body)
		})
	})
}

func sameRelRes(a impl.RelRes, b impl.RelRes) bool {
	return a.Err == b.Err && a.Line == b.Line && sameRel(a.Schema, b.Schema)
}

func TestSchemasAreReadAsWhatTheyAre(t *testing.T) {
	for _, g := range goodRels() {
		if !impl.GoodRelSchema(g.schema) || !goodRelByWords(g.schema) {
			t.Errorf("GoodRelSchema of %.300q: want true", g.text)
		}
		if got := impl.RelSchemaText(g.schema); got != g.text || relTextByWords(g.schema) != g.text {
			t.Errorf("RelSchemaText: got %.300q, want %.300q", got, g.text)
		}
		if got := impl.ReadRelSchema(g.text); !sameRelRes(got, impl.RelRes{Schema: g.schema}) || !sameRelRes(readRelByWords(g.text), got) {
			t.Errorf("ReadRelSchema(%.300q): got %+v", g.text, got)
		}
	}
}

func TestDrawnSchemasAreReadAsWhatTheyAre(t *testing.T) {
	from := drawn()
	good := 0
	for range 3000 {
		s := drawnRel(from)
		if !goodRelByWords(s) {
			continue
		}
		good++
		text := impl.RelSchemaText(s)
		if text == "" || text != relTextByWords(s) {
			t.Errorf("RelSchemaText of %+v: got %q", s, text)
		}
		if got := impl.ReadRelSchema(text); !sameRelRes(got, impl.RelRes{Schema: s}) {
			t.Errorf("ReadRelSchema(%q): got %+v, want %+v", text, got, s)
		}
	}
	if good < 1000 {
		t.Errorf("only %d of them were good", good)
	}
}

func TestGoodRelSchema(t *testing.T) {
	for i, s := range badRels() {
		if impl.GoodRelSchema(s) || goodRelByWords(s) {
			t.Errorf("bad schema %d, %.300s: want false", i, shown(s))
		}
		if got := impl.RelSchemaText(s); got != "" {
			t.Errorf("bad schema %d: got the text %.200q", i, got)
		}
		if got := impl.StrataOf(s); len(got) != 0 {
			t.Errorf("bad schema %d: got the strata %.200q", i, strataText(got))
		}
		for _, typ := range s.Types {
			for _, name := range namesOfType(s, typ.Name) {
				if got := impl.DependsOn(s, typ.Name, name); len(got) != 0 {
					t.Fatalf("bad schema %d: got %.200q", i, strataText(got))
				}
			}
		}
	}
}

// Each limit but that of the text is met exactly; overRels go beyond each by one.
func TestSchemasAtTheirLimits(t *testing.T) {
	s := fullRel()
	if !impl.GoodRelSchema(s) || !goodRelByWords(s) {
		t.Fatalf("a full schema: want true")
	}
	if got := impl.StrataOf(s); len(got) != 2*impl.MaxRelTypes*impl.MaxRelations || !slices.Equal(got, strataByWords(s, "")) {
		t.Errorf("StrataOf a full schema: got %d", len(got))
	}
	if got := impl.DependsOn(s, "t10", "r11"); !slices.Equal(got, strataByWords(s, "t10#r11")) {
		t.Errorf("DependsOn in a full schema: got %d", len(got))
	}
	if impl.RelSchemaText(s) != "" {
		t.Errorf("a full schema has too long a text")
	}
}

func TestBodiesAtTheirLimits(t *testing.T) {
	for within := 1; within <= 14; within++ {
		for i, body := range [][]impl.Rewrite{leftBody(within), rightBody(within), crookedBody(within)} {
			if got := impl.GoodRelSchema(withBody(body)); got != (within <= 10) {
				t.Errorf("body %d with %d within each other: got %v", i, within, got)
			}
		}
	}
	for nodes := 1; nodes <= 61; nodes += 2 {
		if got := impl.GoodRelSchema(withBody(broadBody(nodes))); got != (nodes <= impl.MaxRewrites) {
			t.Errorf("a body of %d nodes: got %v", nodes, got)
		}
	}
	for _, body := range badBodies() {
		if impl.GoodRelSchema(withBody(body)) {
			t.Errorf("%.300s: want no good body", shown(body))
		}
	}
}

// All short lists of nodes: those that are trees are good.
func TestAllShortBodies(t *testing.T) {
	nodes := []impl.Rewrite{{Kind: impl.RewriteName, Name: "r"}, {Kind: impl.RewriteUnion}, {Kind: impl.RewriteLess}, {Kind: impl.RewriteNil}, {Kind: impl.RewriteArrow, Via: "r", Name: "r"}}
	good := 0
	for _, told := range textsOver("01234", 6) {
		var body []impl.Rewrite
		for _, digit := range told {
			body = append(body, nodes[digit-'0'])
		}
		s := withBody(body)
		want := goodBodyByWords(body)
		if got := impl.GoodRelSchema(s); got != want {
			t.Errorf("%v: got %v", body, got)
		}
		if !want {
			continue
		}
		good++
		text := impl.RelSchemaText(s)
		if got := impl.ReadRelSchema(text); text != relLines("type a", " relation r: a", " permission p = "+bodyTextByWords(body)) || !sameRelRes(got, impl.RelRes{Schema: s}) {
			t.Errorf("%v: got %q, which is read as %v", body, text, got)
		}
	}
	if good < 100 {
		t.Errorf("only %d were trees", good)
	}
}

func TestSubjectsRise(t *testing.T) {
	var all []impl.SubjectKind
	for _, typ := range []string{"A", "a", "a1", "aa"} {
		for _, rel := range []string{"", "r", "r1"} {
			for star := range 2 {
				for _, caveat := range []string{"", "C", "c", "c1"} {
					if rel == "" || star == 0 {
						all = append(all, impl.SubjectKind{Type: typ, Rel: rel, Star: star == 1, Caveat: caveat})
					}
				}
			}
		}
	}
	s := relOf("caveat C(a num): a == 1", "caveat c(a num): a == 1", "caveat c1(a num): a == 1", "type A", " relation r: a", " relation r1: a", "type a", " relation r: a", " relation r1: a", "type a1", " relation r: a", " relation r1: a", "type aa", " relation r: a", " relation r1: a")
	good := func(subjects ...impl.SubjectKind) bool {
		s.Types[0].Relations[0].Subjects = subjects
		return impl.GoodRelSchema(s)
	}
	for i, a := range all {
		for j, b := range all {
			if got := good(a, b); got != (i < j) {
				t.Errorf("%v, %v: got %v", a, b, got)
			}
			if got := good(all[0], a, b); got != (0 < i && i < j) {
				t.Errorf("%v, %v behind the first: got %v", a, b, got)
			}
		}
	}
	if !good(all[:impl.MaxSubjects]...) || good(all[:impl.MaxSubjects+1]...) || !good(all[len(all)-impl.MaxSubjects:]...) || good() {
		t.Errorf("the number of subjects")
	}
}

func TestStrataOf(t *testing.T) {
	for text, want := range map[string]string{
		"":              "",
		"type a;type b": "",
		officeText:      "doc#banned:0 doc#folder:0 doc#owner:0 doc#edit:1 doc#view:1 folder#owner:0 folder#up:0 folder#see:0 group#member:0",
		"type a; relation r: a; relation s: a; permission p = nil; permission q = nil;type b; relation a: b; permission _ = a": "a#r:0 a#s:0 a#p:0 a#q:0 b#a:0 b#_:0",
		// Each level, told in an order that is none of the levels'.
		"type a; relation r: a; permission a = r - b; permission b = r - c; permission c = r - d; permission d = r": "a#r:0 a#a:3 a#b:2 a#c:1 a#d:0",
		"type a; relation r: a; permission a = r; permission b = r - a; permission c = r - b; permission d = r - c": "a#r:0 a#a:0 a#b:1 a#c:2 a#d:3",
		"type a; relation r: a; permission a = b; permission b = c; permission c = r - d; permission d = nil":       "a#r:0 a#a:1 a#b:1 a#c:1 a#d:0",
		// The second kid with a tree below it is against as a whole, the first is not; against against is against.
		"type a; relation r: a; permission p = r - (r + q & z); permission q = z - r; permission z = nil":                                                                "a#r:0 a#p:2 a#q:1 a#z:0",
		"type a; relation r: a; permission p = r - (r - q); permission q = z - r; permission z = nil":                                                                    "a#r:0 a#p:2 a#q:1 a#z:0",
		"type a; relation r: a; permission p = r - (q - r); permission q = z - r; permission z = nil":                                                                    "a#r:0 a#p:2 a#q:1 a#z:0",
		"type a; relation r: a; permission p = q - r - r - r; permission q = z - r; permission z = nil":                                                                  "a#r:0 a#p:1 a#q:1 a#z:0",
		"type a; relation r: a; permission p = r + (q - r); permission q = z - r; permission z = nil":                                                                    "a#r:0 a#p:1 a#q:1 a#z:0",
		"type a; relation r: a; permission p = r & (r - q) + q; permission q = z - r; permission z = nil":                                                                "a#r:0 a#p:2 a#q:1 a#z:0",
		"type a; relation r: a; permission p = r - nil; permission q = r - nil - nil":                                                                                    "a#r:0 a#p:0 a#q:0",
		"type a; relation r: a; permission p = r - (nil + nil) + r; permission q = r - p":                                                                                "a#r:0 a#p:0 a#q:1",
		"type a; relation r: a; relation s: a#q; permission p = s; permission q = r - t; permission t = r":                                                               "a#r:0 a#s:1 a#p:1 a#q:1 a#t:0",
		"type a; relation r: b; permission p = r - r->q;type b; relation s: b; permission q = s - t; permission t = nil":                                                 "a#r:0 a#p:2 b#s:0 b#q:1 b#t:0",
		"type a; relation r: a | b; relation s: a:* | a#p; permission p = r->q; permission q = nil;type b; permission q = t - z; permission t = nil; permission z = nil": "a#r:0 a#s:1 a#p:1 a#q:0 b#q:1 b#t:0 b#z:0",
		// A type whose Subject has Star or Rel does not count for an arrow, nor one without the name.
		"type a; relation r: a | b:* | b#x | c; permission p = r->q; permission q = nil;type b; relation x: b; permission q = x - x;type c; permission z = nil - z1; permission z1 = nil": "a#r:0 a#p:0 a#q:0 b#x:0 b#q:1 c#z:1 c#z1:0",
		// Via counts as well as Name.
		"type a; relation r: a | a#q; permission p = r->z; permission q = z - r2; permission r2 = nil; permission z = nil":       "a#r:1 a#p:1 a#q:1 a#r2:0 a#z:0",
		"type a; relation r: a | a#q; permission p = nil - r->z; permission q = z - r2; permission r2 = nil; permission z = nil": "a#r:1 a#p:2 a#q:1 a#r2:0 a#z:0",
	} {
		lines := strings.ReplaceAll(text, ";", "\n")
		s, wrong := relLinesByWords(strings.TrimSuffix(lines, "\n") + strings.Repeat("\n", min(1, len(lines))))
		if wrong > 0 || !impl.GoodRelSchema(s) {
			t.Errorf("%q: want a good schema, line %d", text, wrong)
		}
		if got := strataText(impl.StrataOf(s)); got != want || strataText(strataByWords(s, "")) != want {
			t.Errorf("StrataOf %q: got %q, want %q", text, got, want)
		}
	}
}

func TestDependsOn(t *testing.T) {
	s := office()
	for on, want := range map[string]string{
		"doc#banned":   "doc#banned:0 doc#edit:1 doc#view:1",
		"doc#folder":   "doc#folder:0 doc#view:1",
		"doc#owner":    "doc#owner:0 doc#edit:1 doc#view:1",
		"doc#edit":     "doc#edit:1 doc#view:1",
		"doc#view":     "doc#view:1",
		"folder#owner": "doc#view:1 folder#owner:0 folder#see:0",
		"folder#up":    "doc#view:1 folder#up:0 folder#see:0",
		"folder#see":   "doc#view:1 folder#see:0",
		"group#member": "doc#banned:0 doc#edit:1 doc#view:1 folder#owner:0 folder#see:0 group#member:0",
		"doc#see":      "",
		"doc#up":       "",
		"doc#":         "",
		"#see":         "",
		"#":            "",
		"user#":        "",
		"user#member":  "",
		"Doc#view":     "",
		"doc#View":     "",
		"view#doc":     "",
		"doc#view ":    "",
	} {
		typ, name, _ := strings.Cut(on, "#")
		if got := strataText(impl.DependsOn(s, typ, name)); got != want || strataText(strataByWords(s, on)) != want {
			t.Errorf("DependsOn %q: got %q, want %q", on, got, want)
		}
	}
}

func TestWhatLeansOnItselfIsToldOnce(t *testing.T) {
	s := relOf("type a", " relation r: a#p | a#r", " permission p = q + q + p", " permission q = r & p")
	for _, name := range []string{"r", "p", "q"} {
		if got := strataText(impl.DependsOn(s, "a", name)); got != "a#r:0 a#p:0 a#q:0" {
			t.Errorf("DependsOn a#%s: got %q", name, got)
		}
	}
}

// ringStep is one step from a name p to the next: as what part of a body, and by which lines of relations of its own.
type ringStep struct {
	relation string
	part     string
}

// ringSteps are the ways in which p of that number may lean on the next name, which is of that type.
func ringSteps(number string, typ string, sameType bool, next string) []ringStep {
	steps := []ringStep{
		{" relation x" + number + ": " + typ + "#" + next, "x" + number},
		{" relation x" + number + ": a | " + typ + "#" + next, "x" + number + "->z"},
		{" relation x" + number + ": " + typ, "x" + number + "->" + next},
	}
	if typ == "b" {
		steps[1].relation = " relation x" + number + ": a | b#" + next
	}
	if sameType {
		steps = append(steps, ringStep{"", next})
	}
	return steps
}

// ringBodies are bodies of a part, first those that lean on it, then those that lean on it against.
func ringBodies(part string) ([]string, []string) {
	return []string{part, "z + " + part, part + " - z", "z - z + " + part, "z & (" + part + " - z)"},
		[]string{"z - " + part, "z - (z & (z + " + part + "))", "z - (" + part + " - z)", "z - (z - " + part + ")", part + " - " + part}
}

// ring is a schema of so many names p0, p1 .., each of which leans on the next by a way that ways tells, and the last on the first; bodies of against are taken at the places whose bits are set. All are of type a, or by turns of a and b.
func ring(many int, turns bool, ways []int, against int, form int) impl.RelSchema {
	lines := map[string][]string{}
	typeOf := func(i int) string {
		if turns && i%many%2 == 1 {
			return "b"
		}
		return "a"
	}
	var bodies = map[string][]string{}
	for i := range many {
		next := "p" + strconv.Itoa((i+1)%many)
		steps := ringSteps(strconv.Itoa(i), typeOf(i+1), typeOf(i) == typeOf(i+1), next)
		step := steps[ways[i]%len(steps)]
		if step.relation != "" {
			lines[typeOf(i)] = append(lines[typeOf(i)], step.relation)
		}
		plain, turned := ringBodies(step.part)
		body := plain[form%len(plain)]
		if against>>i&1 == 1 {
			body = turned[form%len(turned)]
		}
		bodies[typeOf(i)] = append(bodies[typeOf(i)], " permission p"+strconv.Itoa(i)+" = "+body)
	}
	var all []string
	for _, typ := range []string{"a", "b"} {
		all = append(all, "type "+typ)
		all = append(all, lines[typ]...)
		all = append(all, " relation z: a")
		all = append(all, bodies[typ]...)
	}
	return relOf(all...)
}

// Promise 6: by one step, by two and by more, in each way, with each step against or not.
func TestNothingLeansOnItselfAgainst(t *testing.T) {
	for many := 1; many <= 4; many++ {
		for _, turns := range []bool{false, true} {
			for told := range 1 << (2 * many) {
				ways := []int{told & 3, told >> 2 & 3, told >> 4 & 3, told >> 6 & 3}
				for against := range 1 << many {
					s := ring(many, turns, ways, against, told+against)
					if !goodNamesByWords(s) {
						t.Fatalf("a ring is not good but for its strata: %v", s)
					}
					if got := impl.GoodRelSchema(s); got != (against == 0) {
						t.Errorf("a ring of %d by %v, against at %b: got %v of %v", many, ways, against, got, s)
					}
					if got := impl.StrataOf(s); (len(got) > 0) != (against == 0) {
						t.Errorf("a ring of %d by %v, against at %b: got the strata %q", many, ways, against, strataText(got))
					}
				}
			}
		}
	}
}

// Each form of a body, at each place of a ring of three.
func TestFormsThatAreAgainst(t *testing.T) {
	for form := range 5 {
		for against := range 8 {
			for way := range 4 {
				s := ring(3, false, []int{way, way + 1, way + 2}, against, form)
				if got := impl.GoodRelSchema(s); got != (against == 0) {
					t.Errorf("form %d, against at %b: got %v", form, against, got)
				}
			}
		}
	}
}

// A ring that is cut at its end is good, and its levels are counted from there.
func TestChainsOfLeaningNames(t *testing.T) {
	for against := range 16 {
		for told := range 1 << 8 {
			// The first two forms lean on nothing else against.
			s := ring(4, false, []int{told & 3, told >> 2 & 3, told >> 4 & 3, told >> 6 & 3}, against, told%2)
			last := len(s.Types[0].Permissions) - 1
			s.Types[0].Permissions[last].Body = namedBody("z")
			level := 0
			for i := 2; i >= 0; i-- {
				level += against >> i & 1
			}
			got := impl.StrataOf(s)
			if !slices.Equal(got, strataByWords(s, "")) || !slices.Contains(got, impl.Stratum{Type: "a", Name: "p0", Level: level}) {
				t.Errorf("a chain with steps against at %b: got %q", against, strataText(got))
			}
		}
	}
}

// A long chain of names, each of which leans on the next against, told from its top on and from its end on.
func TestTheLongestChains(t *testing.T) {
	for _, up := range []bool{false, true} {
		s := impl.RelSchema{}
		many := impl.MaxRelTypes * impl.MaxRelations
		for i := range impl.MaxRelTypes {
			typ := impl.RelType{Name: "t" + strconv.Itoa(10+i)}
			for j := range impl.MaxRelations {
				other := impl.MaxRelTypes - 1
				if up {
					other = 0
				}
				typ.Relations = append(typ.Relations, impl.Relation{Name: "r" + strconv.Itoa(10+j), Subjects: []impl.SubjectKind{{Type: "t" + strconv.Itoa(10+other)}}})
				typ.Permissions = append(typ.Permissions, impl.Permission{Name: "p" + strconv.Itoa(10+j), Body: nilBody()})
			}
			s.Types = append(s.Types, typ)
		}
		lean := func(from int, on int) {
			own, other := &s.Types[from/impl.MaxRelations], s.Types[on/impl.MaxRelations]
			name := other.Permissions[on%impl.MaxRelations].Name
			own.Relations[from%impl.MaxRelations].Subjects = []impl.SubjectKind{{Type: other.Name, Rel: name}}
			own.Permissions[from%impl.MaxRelations].Body = pairBody(impl.RewriteLess, nilBody(), namedBody(own.Relations[from%impl.MaxRelations].Name))
		}
		for i := range many - 1 {
			if up {
				lean(i+1, i)
			} else {
				lean(i, i+1)
			}
		}
		got := impl.StrataOf(s)
		if len(got) != 2*many || !slices.Equal(got, strataByWords(s, "")) {
			t.Errorf("a long chain: got %d strata", len(got))
		}
		highest := slices.MaxFunc(got, func(a, b impl.Stratum) int { return a.Level - b.Level })
		if highest.Level != many-1 {
			t.Errorf("a long chain: got the level %d", highest.Level)
		}
		if up {
			lean(0, many-1)
		} else {
			lean(many-1, 0)
		}
		if impl.GoodRelSchema(s) {
			t.Errorf("a long ring: want false")
		}
	}
}

func askStrata(t *testing.T, s impl.RelSchema) bool {
	t.Helper()
	good := goodRelByWords(s)
	if got := impl.GoodRelSchema(s); got != good {
		t.Errorf("GoodRelSchema(%v): got %v", s, got)
	}
	if got, want := impl.StrataOf(s), strataByWords(s, ""); !slices.Equal(got, want) {
		t.Errorf("StrataOf(%v): got %q, want %q", s, strataText(got), strataText(want))
	}
	names, _ := leansByWords(s)
	for _, on := range names {
		typ, name, _ := strings.Cut(on, "#")
		if got, want := impl.DependsOn(s, typ, name), strataByWords(s, on); !slices.Equal(got, want) {
			t.Errorf("DependsOn(%v, %s): got %q, want %q", s, on, strataText(got), strataText(want))
		}
	}
	return good
}

// All schemas of a relation and two permissions with short bodies.
func TestAllSmallSchemas(t *testing.T) {
	var bodies []string
	for _, a := range []string{"r", "p", "q", "r->p", "r->q", "nil"} {
		bodies = append(bodies, a)
	}
	for _, a := range []string{"r", "p", "q"} {
		for _, b := range []string{"p", "q", "r->p", "r->r"} {
			bodies = append(bodies, a+" - "+b)
		}
	}
	bodies = append(bodies, "r + p", "r & q", "r - (p + q)", "r - (r - q)", "q - (p - r)", "r + (r - q)", "r + (q - r)", "p - r - q", "p - r + q")
	good, bad := 0, 0
	for _, subjects := range []string{"a", "a | a#p", "a | a#q", "a | a#r", "a#p", "a:*"} {
		for _, p := range bodies {
			for _, q := range bodies {
				if askStrata(t, relOf("type a", " relation r: "+subjects, " permission p = "+p, " permission q = "+q)) {
					good++
				} else {
					bad++
				}
			}
		}
	}
	if good < 500 || bad < 500 {
		t.Errorf("%d were good, %d not", good, bad)
	}
}

func TestDrawnStrata(t *testing.T) {
	from := drawn()
	good, high := 0, 0
	for range 2500 {
		s := drawnRel(from)
		if !goodNamesByWords(s) {
			t.Fatalf("no good names: %v", s)
		}
		if !askStrata(t, s) {
			continue
		}
		good++
		for _, x := range impl.StrataOf(s) {
			high = max(high, x.Level)
		}
	}
	if good < 800 || good > 2300 || high < 2 {
		t.Errorf("%d were good, the highest level was %d", good, high)
	}
}

// Levels are as low as may be: with any one of them lower something is not as told.
func TestLevelsAreTheLeast(t *testing.T) {
	from := drawn()
	fits := func(levels map[string]int, leans []wordLean) bool {
		return !slices.ContainsFunc(leans, func(l wordLean) bool {
			return levels[l.from] < levels[l.on] || l.against && levels[l.from] == levels[l.on]
		})
	}
	for range 500 {
		s := drawnRel(from)
		levels := map[string]int{}
		for _, x := range impl.StrataOf(s) {
			levels[x.Type+"#"+x.Name] = x.Level
		}
		if len(levels) == 0 {
			continue
		}
		names, leans := leansByWords(s)
		if !fits(levels, leans) {
			t.Errorf("levels of %v: got %v", s, levels)
		}
		for _, name := range names {
			if levels[name] == 0 {
				continue
			}
			level := levels[name]
			levels[name]--
			if fits(levels, leans) {
				t.Errorf("levels of %v: %s could be less than %d", s, name, level)
			}
			levels[name] = level
		}
	}
}

// ahead are right lines: what stands behind them may not come where a caveat, a relation or a permission must be ahead.
var ahead = []string{"caveat c(a num): a == 1", "type a", " relation r: a", " relation s: a", " permission p = r", " permission q = s"}

func TestLinesThatAreNone(t *testing.T) {
	for _, line := range wrongRelLines() {
		for many := range len(ahead) + 1 {
			text := relLines(append(slices.Clone(ahead[:many]), line)...)
			if got := impl.ReadRelSchema(text); !sameRelRes(got, impl.RelRes{Err: 2, Line: many + 1}) || !sameRelRes(readRelByWords(text), got) {
				t.Errorf("ReadRelSchema(%q): got %+v", text, got)
			}
		}
	}
	for i, line := range wrongRelLines() {
		other := wrongRelLines()[(i+7)%len(wrongRelLines())]
		text := relLines("type a", "type b", line, "type c", other, "type d")
		if got := impl.ReadRelSchema(text); !sameRelRes(got, impl.RelRes{Err: 2, Line: 3}) {
			t.Errorf("ReadRelSchema(%q): got %+v", text, got)
		}
	}
}

func TestLinesThatMayNotComeThere(t *testing.T) {
	for text, line := range map[string]int{
		" relation r: a\n":                                                                                   1,
		" permission p = nil\n":                                                                              1,
		" relation r: a\ntype a\n":                                                                           1,
		"caveat c(a num): a == 1\n relation r: a\n":                                                          2,
		"caveat c(a num): a == 1\n permission p = nil\ntype a\n":                                             2,
		"type a\ncaveat c(a num): a == 1\n":                                                                  2,
		"type a\n relation r: a\ncaveat c(a num): a == 1\n":                                                  3,
		"type a\n permission p = nil\ncaveat c(a num): a == 1\n":                                             3,
		"caveat c(a num): a == 1\ntype a\ncaveat d(a num): a == 1\n":                                         3,
		"type a\n permission p = nil\n relation r: a\n":                                                      3,
		"type a\n relation r: a\n permission p = nil\n relation s: a\n":                                      4,
		"type a\n permission p = nil\ntype b\n relation r: a\n permission q = nil\n relation s: a\ntype c\n": 6,
		"type a\ncaveat type b\n":                                                                            2,
		"type a\n permission p = nil\n relation \n":                                                          3,
		"\n":                           1,
		"\n\n":                         1,
		"type a\n\n":                   2,
		"type a\n\ntype b\n":           2,
		"type a":                       1,
		"type a\ntype b":               2,
		"type a\n relation r: a":       2,
		"type a\n permission p = nil":  2,
		"caveat c(a num): a == 1":      1,
		"type a\nx":                    2,
		"type a\nx\ntype b":            2,
		"x":                            1,
		" ":                            1,
		"type b\ntype a":               2,
		"type a\n relation r: nowhere": 2,
		"type a\r\n":                   1,
		"type a\n permission p = nil - p\ntype b\n x\n":  4,
		strings.Repeat("x", impl.MaxRelText):             1,
		strings.Repeat("\n", impl.MaxRelText):            1,
		strings.Repeat("type a\n", 1142) + "type a":      1143,
		strings.Repeat("type a\n", 1000) + " type a\n\n": 1001,
	} {
		if got := impl.ReadRelSchema(text); !sameRelRes(got, impl.RelRes{Err: 2, Line: line}) || !sameRelRes(readRelByWords(text), got) {
			t.Errorf("ReadRelSchema(%.200q): got %+v, want line %d", text, got, line)
		}
	}
	// A relation may come behind a permission of another type.
	text := relLines("type a", " permission p = nil", "type b", " relation r: b")
	if got := impl.ReadRelSchema(text); got.Err != 0 || impl.RelSchemaText(got.Schema) != text {
		t.Errorf("ReadRelSchema(%q): got %+v", text, got)
	}
}

func TestTextsOfNoGoodSchema(t *testing.T) {
	for _, lines := range badRelLines() {
		text := relLines(lines...)
		if got := impl.ReadRelSchema(text); !sameRelRes(got, impl.RelRes{Err: 3}) {
			t.Errorf("ReadRelSchema(%q): got %+v", text, got)
		}
	}
	seven := strings.TrimSuffix(strings.Repeat("a == 1 && ", impl.MaxTerms+1), " && ")
	for _, text := range []string{
		relLines("caveat c(a num): " + seven),
		relLines("caveat c(a num, b num, c num, d num, e num, f num, g num): a == 1"),
		relLines("type a", " relation r: a", " permission p = r - (r - (r - (r - (r - (r - (r - (r - (r - (r - r)))))))))"),
		relLines("type a", " relation r: a", " permission p = r + r + r + r + r + r + r + r + r + r + r"),
		relLines("type a", " relation r: a", " permission p = "+strings.TrimSuffix(strings.Repeat("r + ", 1900), " + ")),
		relLines("type a", " relation r: a", " permission p = "+strings.Repeat("r + (", 1200)+"r + r"+strings.Repeat(")", 1200)),
		strings.Repeat("type a\n", 1142),
		strings.Repeat("caveat c(a num): a == 1\n", 300),
		"type a\n" + strings.Repeat(" relation r: a\n", 500),
		"type a\n" + strings.Repeat(" permission p = nil\n", 390),
		"type a\n relation r: a" + strings.Repeat(" | a", 1500) + "\n",
		relLines("caveat c(" + strings.Repeat("a num, ", 1000) + "a num): a == 1"),
		relLines("type " + strings.Repeat("a", 7000)),
		relLines("caveat c(a text): " + strings.TrimSuffix(strings.Repeat("a == \" && \" && ", 400), " && ")),
	} {
		if got := impl.ReadRelSchema(text); len(text) > impl.MaxRelText || !sameRelRes(got, impl.RelRes{Err: 3}) {
			t.Errorf("ReadRelSchema of %d bytes, %.100q: got %+v", len(text), text, got)
		}
	}
}

func TestTextsAtTheirLimit(t *testing.T) {
	for _, length := range []int{impl.MaxRelText - 1, impl.MaxRelText, impl.MaxRelText + 1, impl.MaxRelText + 500} {
		s := relOfLength(length)
		text := ""
		for _, c := range s.Caveats {
			text += caveatTextByWords(c)
		}
		text += "type a\n"
		if len(text) != length || !impl.GoodRelSchema(s) {
			t.Fatalf("a schema of %d bytes: has %d", length, len(text))
		}
		want, res := text, impl.RelRes{Schema: s}
		if length > impl.MaxRelText {
			want, res = "", impl.RelRes{Err: 1}
		}
		if got := impl.RelSchemaText(s); got != want {
			t.Errorf("RelSchemaText of %d bytes: got %d", length, len(got))
		}
		if got := impl.ReadRelSchema(text); !sameRelRes(got, res) {
			t.Errorf("ReadRelSchema of %d bytes: got Err %d, Line %d", length, got.Err, got.Line)
		}
	}
	for _, over := range []string{strings.Repeat("x", impl.MaxRelText+1), strings.Repeat("\n", impl.MaxRelText+1), "x" + strings.Repeat("type a\n", 2000), strings.Repeat("a", 1<<20)} {
		if got := impl.ReadRelSchema(over); !sameRelRes(got, impl.RelRes{Err: 1}) {
			t.Errorf("ReadRelSchema of %d bytes: got %+v", len(over), got)
		}
	}
}

// Words that have a meaning of their own, at each place where a name may stand.
func TestWordsWithAMeaningOfTheirOwn(t *testing.T) {
	for text, want := range map[string]int{
		"type nil\n": 0,
		"type true\n relation false: true\n permission true = false\n":                       0,
		"type nil\n relation r: nil\n":                                                       0,
		"type nil\n relation r: nil | nil:*\n permission p = r->r\n":                         0,
		"type a\n relation nil: a\n":                                                         3,
		"type a\n relation r: a#nil\n":                                                       3,
		"type a\n permission nil = nil\n":                                                    3,
		"type a\n permission p = nil\n":                                                      0,
		"type a\n permission p = nil + nil\n":                                                0,
		"type a\n relation r: a\n permission p = r->nil\n":                                   2,
		"type a\n relation r: a\n permission p = nil->r\n":                                   2,
		"type a\n relation r: a\n permission p = r->nil1\n":                                  3,
		"type a\n relation r: a\n permission p = nil1->r\n":                                  3,
		"type a\n relation r: a\n permission p = Nil\n":                                      3,
		"type a\n permission p = true\n":                                                     3,
		"type a\n relation true: a\n permission false = true - true->true\n":                 0,
		"caveat nil(nil num): nil == nil\ntype a\n relation r: a with nil\n":                 0,
		"caveat true(a num): a == 1\ntype a\n relation r: a with true\n":                     0,
		"caveat c(true bool): true == true\n":                                                3,
		"caveat c(a bool): true == true\n":                                                   3,
		"caveat c(a bool): a == true && a == false\n":                                        0,
		"caveat c(a bool): a == True\n":                                                      3,
		"caveat c(True bool): True == True\n":                                                0,
		"caveat c(true1 bool): true1 == true1\n":                                             0,
		"caveat c(a bool): a == truefalse\n":                                                 3,
		"caveat c(a bool): a == nil\n":                                                       3,
		"caveat c(a text): a == \"true\" && a == \"a\"\n":                                    0,
		"caveat c(a ref): a == true::\"a\" && a == nil::\"nil\"\n":                           0,
		"caveat c(in addr): in in in\n":                                                      0,
		"caveat c(num num): num < num\n":                                                     0,
		"caveat caveat(caveat num): caveat == caveat\ntype caveat\n":                         0,
		"type relation\n relation relation: relation\n":                                      0,
		"type permission\n permission permission = permission\n":                             0,
		"caveat with(with num): with == 1\ntype with\n relation with: with:* with with\n":    0,
		"caveat with(with num): with == 1\ntype with\n relation with: with#with with with\n": 0,
		"type with\n relation r: with with\n":                                                2,
		"type with\n relation r: with | with#r\n":                                            0,
	} {
		got := impl.ReadRelSchema(text)
		if got.Err != want || !sameRelRes(got, readRelByWords(text)) || want == 0 && impl.RelSchemaText(got.Schema) != text {
			t.Errorf("ReadRelSchema(%q): got %+v, want Err %d", text, got, want)
		}
	}
}

// askRelRead holds what is read against the words; it says whether it is a schema.
func askRelRead(t *testing.T, text string) bool {
	t.Helper()
	got, want := impl.ReadRelSchema(text), readRelByWords(text)
	if !sameRelRes(got, want) {
		t.Errorf("ReadRelSchema(%q): got %+v, want %+v", text, got, want)
	}
	if got.Err == 0 && impl.RelSchemaText(got.Schema) != text {
		t.Errorf("%q is read as what has another text, %q", text, impl.RelSchemaText(got.Schema))
	}
	return got.Err == 0
}

func TestNoSchemaIsReadThatIsNotTold(t *testing.T) {
	read, not := 0, 0
	ask := func(text string) {
		if askRelRead(t, text) {
			read++
		} else {
			not++
		}
	}
	for _, text := range []string{
		officeText,
		relLines("caveat c(a text, b ref): a == \"x && \\\"y\" && b == T::\") , \" && a <= a", "type a", " relation r: a | a#p with c | a:*", " permission p = r + (r->p & nil) - q", " permission q = nil"),
	} {
		changed(text, "a1_ \n\":*#()|&+-><=,\\@.", ask)
	}
	if read < 100 || not < 1000 {
		t.Errorf("%d were read, %d not", read, not)
	}
}

// Each byte at each place of a short text of each form.
func TestEachByteInASchema(t *testing.T) {
	var all []byte
	for b := range 256 {
		all = append(all, byte(b))
	}
	for _, text := range []string{"type a\n", "type a\n relation r: a\n", "type a\n permission p = nil\n", "caveat c(a num): a < 1\n"} {
		changed(text, string(all), func(text string) { askRelRead(t, text) })
	}
}

// All short bodies over few words and signs.
func TestAllShortBodyTexts(t *testing.T) {
	words := []string{"r", "nil", " + ", " - ", "(", ")", "->"}
	read := 0
	for _, told := range textsOver("0123456", 6) {
		body := ""
		for _, digit := range told {
			body += words[digit-'0']
		}
		if askRelRead(t, relLines("type a", " relation nilr: a", " relation r: a", " permission p = "+body)) {
			read++
		}
	}
	if read < 50 {
		t.Errorf("only %d were read", read)
	}
}

// All short terms over few words and signs.
func TestAllShortTerms(t *testing.T) {
	words := []string{"a", "\"", "\\", " ", "== ", " && ", "::"}
	read := 0
	for _, told := range textsOver("0123456", 5) {
		term := ""
		for _, digit := range told {
			term += words[digit-'0']
		}
		for _, text := range []string{"a == " + term, "a == \"" + term, "a == \"" + term + " && a < a"} {
			if askRelRead(t, relLines("caveat c(a text): "+text)) {
				read++
			}
		}
	}
	if read < 100 {
		t.Errorf("only %d were read", read)
	}
}

// Lines of good schemas, cut and set together anew.
func TestLinesSetTogetherAnew(t *testing.T) {
	from := drawn()
	var lines []string
	for _, g := range goodRels() {
		if len(g.text) < 600 {
			lines = append(lines, strings.SplitAfter(g.text, "\n")...)
		}
	}
	for range 3000 {
		text := ""
		for range 1 + from.Intn(6) {
			text += oneOf(from, lines)
		}
		askRelRead(t, text)
	}
}

func TestAStagedExample(t *testing.T) {
	res := impl.ReadRelSchema(officeText)
	if res.Err != 0 || res.Line != 0 || !reflect.DeepEqual(res.Schema, office()) {
		t.Fatalf("ReadRelSchema: got %+v", res)
	}
	near := res.Schema.Caveats[1]
	for text, want := range map[string]int{
		"{from:10.1.2.3/32,zone:\"a && b\"}": impl.Yes,
		"{from:10.1.2.3/32}":                 impl.Maybe,
		"{from:11.1.2.3/32}":                 impl.No,
		"{zone:\"a\"}":                       impl.No,
		"{}":                                 impl.Maybe,
		"{from:1,zone:\"a && b\"}":           impl.Maybe,
	} {
		given, ok := impl.ReadValue(text)
		if got := impl.CaveatHolds(near, given); !ok || got != want {
			t.Errorf("CaveatHolds of %s: got %d, want %d", text, got, want)
		}
	}
}
