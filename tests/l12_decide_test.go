package tests

import (
	"fmt"
	"slices"
	"strings"
	"testing"

	"loop.example/g00036/impl"
)

func askAncestors(t *testing.T, list []impl.Thing, ref impl.Atom) []impl.Atom {
	t.Helper()
	want := ancestorsByWords(list, ref)
	if got := impl.Ancestors(list, ref); !slices.Equal(got, want) || len(got) == 0 && cap(got) != 0 {
		t.Errorf("Ancestors(%.300s, %.100s): got %.300s, want %.300s", shown(list), shown(ref), shown(got), shown(want))
	}
	return want
}

func askHead(t *testing.T, list []impl.Thing, h impl.Head, ref impl.Atom) bool {
	t.Helper()
	want := headMatchesByWords(list, h, ref)
	if got := impl.HeadMatches(list, h, ref); got != want {
		t.Errorf("HeadMatches(%.300s, %.200s, %.100s): got %v", shown(list), shown(h), shown(ref), got)
	}
	return want
}

// evalText is what EvalExpr answers as a text: that of the value, or `!` and the fault. What is neither is told as it is.
func evalText(list []impl.Thing, r impl.Request, e []impl.Expr) string {
	v, fault := impl.EvalExpr(list, r, e)
	text := impl.ValueText(v)
	switch {
	case fault == 0 && text != "" && v.Kind != impl.ValueRecord && (len(v.Items) > 0 || cap(v.Items) == 0) && cap(v.Names) == 0:
		return text
	case fault > 0 && isZero(v) && cap(v.Items)+cap(v.Names) == 0:
		return fmt.Sprint("!", fault)
	}
	return "neither a value nor a fault: " + shown(v) + fmt.Sprint(fault)
}

func askEval(t *testing.T, list []impl.Thing, r impl.Request, e []impl.Expr) string {
	t.Helper()
	want, fault := evalByWords(list, r, e)
	if fault > 0 {
		want = fmt.Sprint("!", fault)
	}
	if got := evalText(list, r, e); got != want {
		t.Errorf("EvalExpr(%.300s, %.300s, %.300s): got %.300s, want %.300s", shown(list), shown(r), impl.ExprText(e), got, want)
	}
	return want
}

func askDecide(t *testing.T, list []impl.Thing, r impl.Request, policies []impl.Policy) impl.Decision {
	t.Helper()
	want := decideByWords(list, r, policies)
	got := impl.Decide(list, r, policies)
	if !sameDecision(got, want) || len(got.By) == 0 && cap(got.By) != 0 || len(got.Faulty) == 0 && cap(got.Faulty) != 0 {
		t.Errorf("Decide(%.300s, %.300s, %.300s): got %.300s, want %.300s", shown(list), shown(r), shown(policies), shown(got), shown(want))
	}
	return want
}

func TestAncestors(t *testing.T) {
	for ref, row := range deskAncestors() {
		own := refsOf(ref)[0]
		if got := impl.Ancestors(deskThings(), own); !slices.Equal(got, refsOf(row)) {
			t.Errorf("%s: got %s, want %s", ref, shown(got), row)
		}
		if got := impl.Ancestors(nil, own); !slices.Equal(got, []impl.Atom{own}) {
			t.Errorf("%s, among no things: got %s", ref, shown(got))
		}
		askAncestors(t, deskThings(), own)
	}
	for _, list := range goodThingLists() {
		askAncestors(t, list, refAtom("A", "a"))
		for _, x := range list[:min(len(list), 3)] {
			askAncestors(t, list, x.Ref)
		}
	}
	for _, g := range goodAtoms() {
		if g.atom.Kind == impl.RefAtom && !slices.Equal(impl.Ancestors(countedThings(3), g.atom), []impl.Atom{g.atom}) {
			t.Errorf("%s: not itself alone", g.text)
		}
	}
}

// allSmallThings hands on each list of up to three things out of three refs, each with any of four Parents, of which one is never there.
func allSmallThings(take func(list []impl.Thing)) {
	refs := refsOf(`A::"b" B::"a" B::"c" C::"c"`)
	for there := range 8 {
		for parents := range 1 << 12 {
			var list []impl.Thing
			fits := true
			for i, ref := range refs[:3] {
				own := parents >> (4 * i) & 15
				if there>>i&1 == 0 {
					// What is not there has no Parents.
					fits = fits && own == 0
					continue
				}
				x := impl.Thing{Ref: ref}
				for k, p := range refs {
					if own>>k&1 == 1 {
						x.Parents = append(x.Parents, p)
					}
				}
				list = append(list, x)
			}
			if fits {
				take(list)
			}
		}
	}
}

func TestAncestorsOfAllSmallThings(t *testing.T) {
	refs := refsOf(`A::"b" B::"a" B::"c" C::"c" D::"d"`)
	lists := 0
	allSmallThings(func(list []impl.Thing) {
		lists++
		for _, ref := range refs {
			askAncestors(t, list, ref)
		}
	})
	if lists != 1+3*16+3*256+4096 {
		t.Errorf("%d lists", lists)
	}
}

func TestAncestorsInALine(t *testing.T) {
	for _, many := range []int{1, 2, 50, impl.MaxThings - 1, impl.MaxThings, impl.MaxThings + 1} {
		for _, falling := range []bool{false, true} {
			list := lineOfThings(many, falling)
			refs := countedRefs(many + 1)
			for i, ref := range refs {
				want := refs[i:]
				if falling {
					want = refs[:i+1]
				}
				if many > impl.MaxThings {
					want = nil
				}
				if got := impl.Ancestors(list, ref); !slices.Equal(got, want) {
					t.Errorf("%d things, falling %v: above %d: got %d refs", many, falling, i, len(got))
				}
			}
			last := len(refs) - 1
			if falling {
				refs[0], refs[last] = refs[last], refs[0]
			}
			if got := impl.HeadMatches(list, impl.Head{Kind: impl.HeadIn, Atom: refs[last]}, refs[0]); got != (many <= impl.MaxThings) {
				t.Errorf("%d things: the last one is above the first one: got %v", many, got)
			}
			if impl.HeadMatches(list, impl.Head{Kind: impl.HeadIn, Atom: refs[0]}, refs[last]) {
				t.Errorf("%d things: the first one is above the last one", many)
			}
		}
	}
	list := fullThings()
	got := impl.Ancestors(list, list[0].Ref)
	if len(got) != 101+100*49 || !slices.IsSortedFunc(got, impl.CompareAtoms) || !slices.Equal(got, ancestorsByWords(list, list[0].Ref)) {
		t.Errorf("%d refs above the first one", len(got))
	}
	ring := lineOfThings(impl.MaxThings, false)
	ring[99].Parents = []impl.Atom{ring[0].Ref}
	for _, x := range ring {
		if got := impl.Ancestors(ring, x.Ref); len(got) != impl.MaxThings {
			t.Errorf("in a ring: %d refs above %s", len(got), shown(x.Ref))
		}
	}
}

func TestAncestorsOfNoGoodOnes(t *testing.T) {
	own := refAtom("A", "a")
	for _, list := range badThingLists() {
		if got := impl.Ancestors(list, own); len(got) != 0 || cap(got) != 0 || impl.HeadMatches(list, anyHead(), own) || impl.HeadMatches(list, impl.Head{Kind: impl.HeadIn, Atom: own}, own) {
			t.Errorf("among %.300s: got %.300s", shown(list), shown(got))
		}
	}
	for _, a := range noRefs() {
		for _, list := range [][]impl.Thing{nil, deskThings()} {
			if got := impl.Ancestors(list, a); len(got) != 0 || cap(got) != 0 || impl.HeadMatches(list, anyHead(), a) {
				t.Errorf("%.300s: got %.300s", shown(a), shown(got))
			}
			askHead(t, list, impl.Head{Kind: impl.HeadSame, Atom: a}, a)
			askHead(t, list, impl.Head{Kind: impl.HeadIn, Atom: a}, a)
			askHead(t, list, isHead(a.Type), a)
		}
	}
}

// askAbove holds what is above each thing against what is above its Parents and above all that is above.
func askAbove(t *testing.T, list []impl.Thing) {
	t.Helper()
	for _, x := range list {
		above := impl.Ancestors(list, x.Ref)
		if !slices.Contains(above, x.Ref) || !slices.IsSortedFunc(above, impl.CompareAtoms) || len(slices.Compact(slices.Clone(above))) != len(above) {
			t.Fatalf("%s: not it itself and others, rising: %.300s", shown(x.Ref), shown(above))
		}
		for _, p := range x.Parents {
			if !slices.Contains(above, p) {
				t.Errorf("%s is no ancestor of %s, whose Parent it is", shown(p), shown(x.Ref))
			}
		}
		for _, p := range above {
			for _, up := range impl.Ancestors(list, p) {
				head := impl.Head{Kind: impl.HeadIn, Atom: up}
				if !slices.Contains(above, up) || !impl.HeadMatches(list, head, x.Ref) || !impl.HeadMatches(list, head, p) {
					t.Errorf("%s is above %s, but not above %s, which is below that", shown(up), shown(p), shown(x.Ref))
				}
			}
		}
	}
}

func TestWhatIsAboveIsAboveAllThatIsBelow(t *testing.T) {
	askAbove(t, deskThings())
	askAbove(t, labWorld().things)
	round := 0
	allSmallThings(func(list []impl.Thing) {
		if round++; round%7 == 0 {
			askAbove(t, list)
		}
	})
	from := drawn()
	for range 200 {
		list := drawnThings(from, 2+from.Intn(12), 2+from.Intn(8))
		askAbove(t, list)
		for _, ref := range countedRefs(14) {
			askAncestors(t, list, ref)
		}
	}
	askAbove(t, lineOfThings(20, true))
}

func TestHeadMatches(t *testing.T) {
	list := deskThings()
	matches := 0
	for ref := range deskAncestors() {
		own := refsOf(ref)[0]
		for h, want := range headsAt(ref) {
			if got := impl.HeadMatches(list, h, own); got != want {
				t.Errorf("%s, %s: got %v", shown(h), ref, got)
			}
			if askHead(t, list, h, own) {
				matches++
			}
			askHead(t, nil, h, own)
		}
	}
	if matches < 70 {
		t.Errorf("only %d match", matches)
	}
	for _, h := range badHeads() {
		for ref := range deskAncestors() {
			if impl.HeadMatches(list, h, refsOf(ref)[0]) {
				t.Errorf("%.300s matches", shown(h))
			}
		}
		if h.Kind == impl.HeadIs || h.Kind == impl.HeadAny {
			askHead(t, list, h, refAtom("User", "a"))
		}
	}
	for _, c := range []struct {
		head impl.Head
		want bool
	}{
		{anyHead(), true},
		{refHead(impl.HeadSame, "User", "ann"), true},
		{refHead(impl.HeadSame, "User", "bob"), false},
		{refHead(impl.HeadSame, "Group", "g"), false},
		{refHead(impl.HeadIn, "User", "ann"), true},
		{refHead(impl.HeadIn, "Group", "g"), true},
		{refHead(impl.HeadIn, "Group", "top"), true},
		{refHead(impl.HeadIn, "Group", "k"), false},
		{refHead(impl.HeadIn, "Zoo", "z"), false},
		{isHead("User"), true},
		{isHead("Group"), false},
		{impl.Head{Kind: impl.HeadSlot}, false},
		{impl.Head{Kind: impl.HeadInSlot}, false},
		{impl.Head{}, false},
		{impl.Head{Kind: 7}, false},
		{impl.Head{Kind: impl.HeadAny, Type: "User"}, false},
		{impl.Head{Kind: impl.HeadSame, Atom: refAtom("User", "ann"), Type: "User"}, false},
		{impl.Head{Kind: impl.HeadIs, Type: "User", Atom: refAtom("User", "ann")}, false},
	} {
		if got := impl.HeadMatches(list, c.head, refAtom("User", "ann")); got != c.want {
			t.Errorf("%s: got %v", shown(c.head), got)
		}
	}
}

// What a head asks can be asked by an expression of the part of the request as well.
func TestHeadsSayWhatTheirTestsSay(t *testing.T) {
	list := deskThings()
	for ref := range deskAncestors() {
		r := deskRequest()
		r.Principal = refsOf(ref)[0]
		for other := range deskAncestors() {
			atom := refsOf(other)[0]
			for _, c := range []struct {
				head impl.Head
				test string
			}{
				{impl.Head{Kind: impl.HeadSame, Atom: atom}, "principal == " + other},
				{impl.Head{Kind: impl.HeadIn, Atom: atom}, "principal in " + other},
				{isHead(atom.Type), "principal is " + atom.Type},
			} {
				want := fmt.Sprint(impl.HeadMatches(list, c.head, r.Principal))
				if got := evalText(list, r, exprText(c.test)); got != want {
					t.Errorf("%s, where the principal is %s: got %s, want %s", c.test, ref, got, want)
				}
				p := plainPolicy("p")
				p.Principal = c.head
				if d := impl.Decide(list, r, []impl.Policy{p}); fmt.Sprint(d.Allow) != want {
					t.Errorf("%s, where the principal is %s: Allow %v", impl.PolicyText(p), ref, d.Allow)
				}
			}
		}
	}
}

func TestEvalExpr(t *testing.T) {
	list, r := deskThings(), deskRequest()
	for text, want := range deskOutcomes() {
		e := exprText(text)
		if got := evalText(list, r, e); got != want {
			t.Errorf("%s: got %s, want %s", text, got, want)
		}
		askEval(t, list, r, e)
	}
}

// The same expressions where nothing is in the list, and where the request is another.
func TestEvalExprElsewhere(t *testing.T) {
	other := requestOf(refAtom("User", "zed"), "edit", refAtom("Folder", "f"), "")
	for text := range deskOutcomes() {
		e := exprText(text)
		askEval(t, nil, deskRequest(), e)
		askEval(t, deskThings(), other, e)
		askEval(t, nil, other, e)
		askEval(t, labWorld().things, labWorld().request, e)
		askEval(t, deskThings(), requestOf(refAtom("Doc", "d"), "view", refAtom("User", "bob"), `hat=1 n=User::"ann" ok=[]`), e)
	}
	for text, want := range map[string]string{
		"principal": `User::"zed"`, "action": `Action::"edit"`, "resource": `Folder::"f"`, "context.n": "!2", "context has n": "false", "principal.age": "!2", "principal has age": "false", `resource in Folder::"h"`: "true", `principal in Group::"g"`: "false", "principal in principal": "true",
	} {
		if got := evalText(deskThings(), other, exprText(text)); got != want {
			t.Errorf("%s: got %s, want %s", text, got, want)
		}
	}
	for text, want := range map[string]string{
		"principal.age": "!2", "principal has age": "false", "context.n": "3", "context.who.age": "!2", `principal in Group::"g"`: "false", `principal in User::"ann"`: "true", "resource.readers": "!2",
	} {
		if got := evalText(nil, deskRequest(), exprText(text)); got != want {
			t.Errorf("%s, among no things: got %s, want %s", text, got, want)
		}
	}
}

// Each kind of nodes with kids of each kind of value and of each fault.
func TestOutcomesOfNodesByTheirKids(t *testing.T) {
	list, r := deskThings(), deskRequest()
	scene := wordScene{list, r}
	found := map[string]int{}
	ask := func(e []impl.Expr) {
		want, fault := scene.eval(e)
		if fault > 0 {
			want = fmt.Sprint("!", fault)
		}
		if got := evalText(list, r, e); got != want {
			t.Errorf("%s: got %s, want %s", impl.ExprText(e), got, want)
		}
		found[want]++
	}
	var kids [][]impl.Expr
	for _, text := range deskKids() {
		kids = append(kids, exprText(text))
	}
	for _, a := range kids {
		ask(a)
		for _, e := range [][]impl.Expr{notExpr(a), negExpr(a), exprOf(impl.ExprLike, "*", a), exprOf(impl.ExprLike, "", a), exprOf(impl.ExprIs, "User", a), exprOf(impl.ExprIs, "Doc", a), exprOf(impl.ExprHas, "age", a), exprOf(impl.ExprHas, "n", a), getExpr(a, "age"), getExpr(a, "n"), getExpr(a, "level"), getExpr(a, "hat")} {
			ask(e)
		}
		for _, b := range kids {
			for kind := range pairKinds() {
				ask(exprOf(kind, "", a, b))
			}
			for i, c := range kids {
				if i%3 == 0 {
					ask(ifExpr(a, b, c))
				}
			}
		}
	}
	if found["!1"] < 5000 || found["!2"] < 1000 || found["true"] < 200 || found["false"] < 1000 {
		t.Errorf("found %v", found)
	}
}

// What is not evaluated is not evaluated at all: whatever stands there counts for nothing.
func TestWhatIsNotEvaluatedCountsForNothing(t *testing.T) {
	list, r := deskThings(), deskRequest()
	yes, no, one := exprText("resource.yes"), exprText("principal has hat"), numExpr(1)
	for _, text := range append(deskKids(), "principal.hat.age", "context.zip", "!5", "-(true)", "(5).age", "1 < true", `5 like "*"`, "5 in 5", "if 5 then 1 else 2") {
		e := exprText(text)
		for _, c := range []struct {
			e    []impl.Expr
			want string
		}{
			{exprOf(impl.ExprAnd, "", no, e), "false"},
			{exprOf(impl.ExprOr, "", yes, e), "true"},
			{ifExpr(yes, one, e), "1"},
			{ifExpr(no, e, one), "1"},
			{exprOf(impl.ExprAnd, "", exprOf(impl.ExprAnd, "", yes, no), e), "false"},
			{exprOf(impl.ExprOr, "", no, exprOf(impl.ExprOr, "", yes, e)), "true"},
			{ifExpr(exprOf(impl.ExprOr, "", yes, e), ifExpr(no, e, one), e), "1"},
			{notExpr(exprOf(impl.ExprAnd, "", no, e)), "true"},
			{exprOf(impl.ExprPlus, "", ifExpr(yes, one, e), ifExpr(no, e, one)), "2"},
		} {
			if got := evalText(list, r, c.e); got != c.want {
				t.Errorf("%s: got %s, want %s", impl.ExprText(c.e), got, c.want)
			}
		}
		// What is evaluated counts: the outcome is its own, or a fault.
		own := evalText(list, r, e)
		if got := evalText(list, r, ifExpr(yes, e, one)); got != own {
			t.Errorf("if true then %s: got %s, want %s", text, got, own)
		}
		if got := evalText(list, r, ifExpr(no, one, e)); got != own {
			t.Errorf("if false .. else %s: got %s, want %s", text, got, own)
		}
		if own != "true" && own != "false" && own[0] != '!' {
			own = "!1"
		}
		for _, whole := range [][]impl.Expr{exprOf(impl.ExprAnd, "", yes, e), exprOf(impl.ExprOr, "", no, e)} {
			if got := evalText(list, r, whole); got != own {
				t.Errorf("%s: got %s, want %s", impl.ExprText(whole), got, own)
			}
		}
	}
}

// Of two faults the one that is further left comes first, and both come ahead of what a node finds of its kids.
func TestWhichFaultComesFirst(t *testing.T) {
	list, r := deskThings(), deskRequest()
	missing, amiss := exprText("principal.hat"), exprText("context")
	for kind := range pairKinds() {
		for _, c := range []struct {
			first, second []impl.Expr
			want          string
		}{
			{missing, amiss, "!2"},
			{amiss, missing, "!1"},
			{missing, missing, "!2"},
			{amiss, amiss, "!1"},
			{missing, exprText("[1]"), "!2"},
			{exprText(`["a"]`), missing, "!2"},
			{exprText("@1"), missing, "!2"},
			{exprText("10.0.0.0/8"), missing, "!2"},
		} {
			e := exprOf(kind, "", c.first, c.second)
			if got := evalText(list, r, e); got != c.want {
				t.Errorf("%s: got %s, want %s", impl.ExprText(e), got, c.want)
			}
		}
	}
	for _, a := range []string{"principal.hat", "principal.boss.boss", "context.zip", "resource.lost.age"} {
		for _, e := range [][]impl.Expr{notExpr(exprText(a)), negExpr(exprText(a)), exprOf(impl.ExprLike, "*", exprText(a)), exprOf(impl.ExprIs, "User", exprText(a)), exprOf(impl.ExprHas, "age", exprText(a)), getExpr(exprText(a), "age"), ifExpr(exprText(a), amiss, amiss)} {
			if got := evalText(list, r, e); got != "!2" {
				t.Errorf("%s: got %s", impl.ExprText(e), got)
			}
		}
	}
}

// Every value that a field may have comes out of it as it is, of a thing and of the context.
func TestFieldsAreGivenAsTheyAre(t *testing.T) {
	own := refAtom("A", "a")
	for _, f := range goodFields() {
		r := impl.Request{Principal: own, Action: own, Resource: refAtom("B", "b"), Names: f.names, Values: f.values}
		list := []impl.Thing{{Ref: own, Names: f.names, Values: f.values}}
		for i, name := range f.names {
			want := impl.ValueText(f.values[i])
			for _, of := range []string{"principal", "action", "context"} {
				if got := evalText(list, r, getExpr(varExpr(of), name)); got != want {
					t.Errorf("%s.%s: got %.300s, want %.300s", of, name, got, want)
				}
				if got := evalText(list, r, exprOf(impl.ExprHas, name, varExpr(of))); got != "true" {
					t.Errorf("%s has %s: got %s", of, name, got)
				}
			}
			if got := evalText(list, r, getExpr(varExpr("resource"), name)); got != "!2" {
				t.Errorf("resource.%s: got %.300s", name, got)
			}
			if got := evalText(list, r, exprOf(impl.ExprSame, "", getExpr(varExpr("context"), name), getExpr(varExpr("principal"), name))); got != "true" {
				t.Errorf("context.%s == principal.%s: got %s", name, name, got)
			}
		}
		for _, of := range []string{"principal", "context"} {
			if got := evalText(list, r, exprOf(impl.ExprHas, "nothing", varExpr(of))); got != "false" {
				t.Errorf("%s has nothing: got %s", of, got)
			}
			if got := evalText(list, r, getExpr(varExpr(of), "nothing")); got != "!2" {
				t.Errorf("%s.nothing: got %s", of, got)
			}
		}
	}
	for _, g := range goodAtoms() {
		if got := evalText(nil, plainRequest(), litExpr(g.atom)); got != g.text {
			t.Errorf("%.300s: got %.300s", g.text, got)
		}
		if got := evalText(nil, plainRequest(), setExpr(g.atom, g.atom)); got != "["+g.text+"]" {
			t.Errorf("[%.300s, %.300s]: got %.300s", g.text, g.text, got)
		}
	}
}

// Each two atoms side by side below each kind of pairs.
func TestPairsOfAtoms(t *testing.T) {
	list, r := deskThings(), deskRequest()
	scene := wordScene{list, r}
	atoms := goodAtoms()
	for _, a := range atoms {
		for _, b := range atoms {
			for kind := range pairKinds() {
				e := exprOf(kind, "", litExpr(a.atom), litExpr(b.atom))
				want, fault := scene.eval(e)
				if fault > 0 {
					want = fmt.Sprint("!", fault)
				}
				if got := evalText(list, r, e); got != want {
					t.Errorf("%.300s: got %.300s, want %.300s", impl.ExprText(e), got, want)
				}
			}
			e := exprOf(impl.ExprContains, "", setExpr(a.atom, numAtom(1)), litExpr(b.atom))
			if got, want := evalText(list, r, e), fmt.Sprint(a.atom == b.atom || b.atom == numAtom(1)); got != want {
				t.Errorf("%.300s: got %s, want %s", impl.ExprText(e), got, want)
			}
		}
	}
}

func TestEvalExprOfNoGoodOnes(t *testing.T) {
	yes := exprText("true")
	for _, list := range badThingLists() {
		if got := evalText(list, deskRequest(), yes); got != "!1" {
			t.Errorf("among %.300s: got %s", shown(list), got)
		}
	}
	for _, r := range badRequests() {
		if got := evalText(deskThings(), r, yes); got != "!1" {
			t.Errorf("by %.300s: got %s", shown(r), got)
		}
	}
	for _, e := range badExprs() {
		if got := evalText(deskThings(), deskRequest(), e); got != "!1" {
			t.Errorf("%.300s: got %s", shown(e), got)
		}
	}
	for _, list := range goodThingLists() {
		if got := evalText(list, deskRequest(), yes); got != "true" {
			t.Errorf("among %.300s: got %s", shown(list), got)
		}
		for _, text := range []string{"principal has age", `A::"a" in R::"10000"`, "context.n + 1"} {
			askEval(t, list, deskRequest(), exprText(text))
		}
	}
	for _, r := range goodRequests() {
		if got := evalText(deskThings(), r, yes); got != "true" {
			t.Errorf("by %.300s: got %s", shown(r), got)
		}
	}
}

// Expressions at their limits: all nodes, and all within each other.
func TestEvalOfTheGreatestExprs(t *testing.T) {
	list, r := deskThings(), deskRequest()
	sum := exprText("principal.age")
	for within := 2; within <= 14; within++ {
		want := fmt.Sprint(20 + within - 2)
		if within > 12 {
			want = "!1"
		}
		if got := evalText(list, r, sum); got != want {
			t.Errorf("%d within each other: got %s", within, got)
		}
		sum = exprOf(impl.ExprPlus, "", numExpr(1), sum)
	}
	for nodes := 1; nodes <= 61; nodes += 2 {
		e := broadExpr(nodes)
		for i := range e {
			if e[i].Kind == impl.ExprLit {
				e[i].Atom = boolAtom(1)
			}
		}
		if got := evalText(list, r, e); (got == "true") != (nodes <= 60) {
			t.Errorf("%d nodes: got %q", nodes, got)
		}
	}
	for _, within := range []int{1, 2, 11, 12, 13} {
		for _, e := range deepExprs(max(within, 2)) {
			askEval(t, list, r, e)
		}
	}
	for nodes := 6; nodes <= 61; nodes++ {
		askEval(t, list, r, broadSets(nodes))
	}
	full := fullThings()
	r.Principal = full[0].Ref
	for _, ref := range []impl.Atom{full[0].Ref, full[99].Ref, full[99].Parents[0], full[50].Parents[49], full[99].Parents[49]} {
		if got := evalText(full, r, exprOf(impl.ExprIn, "", principalExpr(), litExpr(ref))); got != "true" {
			t.Errorf("in %s: got %s", shown(ref), got)
		}
	}
}

func TestDrawnOutcomes(t *testing.T) {
	d := deskDrawer{drawn()}
	list, r := deskThings(), deskRequest()
	found := map[string]int{}
	for range 30000 {
		form := d.form()
		e := d.draw(form, 1+d.from.Intn(7))
		if !goodExprByWords(e) {
			continue
		}
		outcome := askEval(t, list, r, e)
		if outcome[0] != '!' {
			outcome = formOf(outcome)
		}
		found[outcome]++
	}
	for _, form := range []string{"bool", "num", "text", "ref", "dec", "addr", "time", "set", "!1", "!2"} {
		if found[form] < 500 {
			t.Errorf("found %v", found)
		}
	}
}

// decisionOf is what policies that do as told come to.
func decisionOf(list []deskPolicy) impl.Decision {
	var permits, forbids, faulty []string
	for i, d := range list {
		id := fmt.Sprint("p", 100+i)
		switch {
		case d.does == "faulty":
			faulty = append(faulty, id)
		case d.does == "applies" && d.policy.Permit:
			permits = append(permits, id)
		case d.does == "applies":
			forbids = append(forbids, id)
		}
	}
	if len(forbids) > 0 {
		return impl.Decision{By: forbids, Faulty: faulty}
	}
	return impl.Decision{Allow: len(permits) > 0, By: permits, Faulty: faulty}
}

func TestDecide(t *testing.T) {
	list, r := deskThings(), deskRequest()
	all := deskPolicies()
	ask := func(some ...deskPolicy) {
		want := decisionOf(some)
		got := impl.Decide(list, r, numbered(some))
		if !sameDecision(got, want) || len(got.By) == 0 && cap(got.By) != 0 || len(got.Faulty) == 0 && cap(got.Faulty) != 0 {
			t.Errorf("%.500s: got %s, want %s", shown(some), shown(got), shown(want))
		}
	}
	ask()
	for _, a := range all {
		ask(a)
		askDecide(t, list, r, numbered([]deskPolicy{a}))
		for _, b := range all {
			ask(a, b)
			for _, c := range all {
				ask(a, b, c)
			}
		}
	}
	ask(all...)
	back := slices.Clone(all)
	slices.Reverse(back)
	ask(back...)
}

func TestDecideByItsWords(t *testing.T) {
	list, r := deskThings(), deskRequest()
	for _, c := range []struct {
		text       string
		allow      bool
		by, faulty string
	}{
		{"", false, "", ""},
		{"permit \"a\" (principal, action, resource);\n", true, "a", ""},
		{"forbid \"a\" (principal, action, resource);\n", false, "a", ""},
		{"permit \"a\" (principal, action, resource);\nforbid \"b\" (principal, action, resource);\n", false, "b", ""},
		{"forbid \"a\" (principal, action, resource);\npermit \"b\" (principal, action, resource);\n", false, "a", ""},
		{"forbid \"a\" (principal, action, resource) when false;\npermit \"b\" (principal, action, resource);\n", true, "b", ""},
		{"forbid \"a\" (principal, action, resource) when 1;\npermit \"b\" (principal, action, resource);\n", true, "b", "a"},
		{"permit \"a\" (principal, action, resource) when 1;\n", false, "", "a"},
		{"permit \"a\" (principal, action, resource) when context;\n", false, "", "a"},
		{"permit \"a\" (principal, action, resource) when principal.hat;\npermit \"b\" (principal, action, resource) when 0;\npermit \"c\" (principal, action, resource) when [];\npermit \"d\" (principal, action, resource) when \"true\";\n", false, "", "a b c d"},
		{"forbid \"a\" (principal is Doc, action, resource) when principal.hat;\nforbid \"b\" (principal, action == Action::\"read\", resource) when 1;\nforbid \"c\" (principal, action, resource in Folder::\"x\") when context;\npermit \"d\" (principal, action, resource);\n", true, "d", ""},
		{"permit \"a\" (principal, action, resource);\npermit \"b\" (principal, action, resource) when principal.hat;\npermit \"c\" (principal, action, resource) when true;\npermit \"d\" (principal, action, resource) when false;\n", true, "a c", "b"},
		{"forbid \"a\" (principal, action, resource);\npermit \"b\" (principal, action, resource);\nforbid \"c\" (principal, action, resource) when true;\nforbid \"d\" (principal, action, resource) when principal.hat;\npermit \"e\" (principal, action, resource) when 5;\n", false, "a c", "d e"},
		{"permit \"a\" (principal == ?, action, resource);\nforbid \"b\" (principal, action, resource in ?) when principal.hat;\n", false, "", ""},
		{"permit \"Z\" (principal, action, resource);\npermit \"a\" (principal, action, resource);\n", true, "Z a", ""},
		{"permit \"a\" (principal in Group::\"top\", action in Action::\"read\", resource in Folder::\"g\") when principal has age && principal.age < 21;\n", true, "a", ""},
		{"permit \"a\" (principal in Group::\"k\", action in Action::\"read\", resource in Folder::\"g\");\n", false, "", ""},
	} {
		res := impl.ReadPolicies(c.text)
		want := impl.Decision{Allow: c.allow, By: strings.Fields(c.by), Faulty: strings.Fields(c.faulty)}
		if got := impl.Decide(list, r, res.Policies); res.Err != 0 || !sameDecision(got, want) {
			t.Errorf("%s: got %s, want %s", c.text, shown(got), shown(want))
		}
	}
}

func TestDecideAtItsLimits(t *testing.T) {
	list, r := deskThings(), deskRequest()
	for many, want := range map[int]bool{0: false, 1: true, 39: true, 40: true, 41: false, 3000: false} {
		policies, _ := countedPolicies(many)
		for i := range policies {
			policies[i].Permit, policies[i].Principal, policies[i].Action, policies[i].Resource, policies[i].When = true, anyHead(), anyHead(), anyHead(), nil
		}
		d := impl.Decide(list, r, policies)
		if d.Allow != want || want && len(d.By) != many || !want && len(d.By) > 0 {
			t.Errorf("%d policies: got %.300s", many, shown(d))
		}
		for i := range policies {
			policies[i].Permit = i%2 == 0
		}
		askDecide(t, list, r, policies)
		for i := range policies {
			policies[i].When = exprText("principal.hat")
		}
		if d := askDecide(t, list, r, policies); many == impl.MaxPolicies && len(d.Faulty) != many {
			t.Errorf("%d policies: got %.300s", many, shown(d))
		}
	}
	for _, things := range [][]impl.Thing{fullThings(), lineOfThings(impl.MaxThings, true)} {
		r.Principal, r.Action, r.Resource = things[0].Ref, things[50].Ref, things[99].Ref
		p := plainPolicy("p")
		p.Principal, p.Action, p.Resource = refHead(impl.HeadIn, "R", "10100"), refHead(impl.HeadIn, "R", "10100"), refHead(impl.HeadIn, "R", "10000")
		askDecide(t, things, r, []impl.Policy{p})
		p.Resource = refHead(impl.HeadIn, "R", "10100")
		askDecide(t, things, r, []impl.Policy{p})
	}
}

// Ids that fall or are the same, one thing that is not good, in each place: nothing is decided.
func TestDecideOfNoGoodOnes(t *testing.T) {
	list, r := deskThings(), deskRequest()
	none := func(list []impl.Thing, r impl.Request, policies []impl.Policy) {
		t.Helper()
		if d := impl.Decide(list, r, policies); d.Allow || len(d.By)+len(d.Faulty) > 0 || cap(d.By)+cap(d.Faulty) > 0 {
			t.Errorf("Decide(%.200s, %.200s, %.300s): got %s", shown(list), shown(r), shown(policies), shown(d))
		}
	}
	fine := []impl.Policy{plainPolicy("b"), plainPolicy("m"), plainPolicy("x")}
	if d := impl.Decide(list, r, fine); !d.Allow || !slices.Equal(d.By, []string{"b", "m", "x"}) {
		t.Fatalf("three that permit: got %s", shown(d))
	}
	for _, ids := range [][]string{{"b", "a"}, {"a", "a"}, {"a", "c", "b"}, {"b", "a", "c"}, {"a", "b", "b"}, {"a", "b", "a"}, {"a", "A"}, {"10", "1"}, {"b", "c", "d", "a"}} {
		var policies []impl.Policy
		for _, id := range ids {
			policies = append(policies, plainPolicy(id))
		}
		none(list, r, policies)
	}
	for _, bad := range badPolicies() {
		for at := range 4 {
			// The Id alone stands where it rises.
			if bad.Id == "p" || bad.Id == "t" {
				bad.Id = []string{"a", "c", "n", "y"}[at]
			}
			none(list, r, slices.Insert(slices.Clone(fine), at, bad))
		}
		none(list, r, []impl.Policy{bad})
	}
	for _, things := range badThingLists() {
		none(things, r, fine)
		none(things, r, nil)
	}
	for _, other := range badRequests() {
		none(list, other, fine)
	}
	none(nil, impl.Request{}, nil)
	none(list, r, make([]impl.Policy, 3))
	none(list, r, make([]impl.Policy, 100000))
}

// drawnPolicies are good policies with Ids that rise, about what is at the desk.
func (d deskDrawer) drawnPolicies(many int) []impl.Policy {
	var policies []impl.Policy
	for i := range many {
		policies = append(policies, d.policy(fmt.Sprint("p", 100+i)))
	}
	return policies
}

func (d deskDrawer) policy(id string) impl.Policy {
	for {
		p := impl.Policy{Id: id, Permit: d.from.Intn(2) == 0, Principal: d.head("User", "Group", true), Action: d.head("Action", "Action", false), Resource: d.head("Doc", "Folder", true)}
		if d.from.Intn(4) > 0 {
			p.When = d.draw("bool", 1+d.from.Intn(4))
		}
		if goodPolicyByWords(p) {
			return p
		}
	}
}

func (d deskDrawer) head(typ string, up string, slots bool) impl.Head {
	texts := map[string][]string{"User": {"ann", "bob"}, "Group": {"g", "k", "top"}, "Action": {"view", "read", "edit"}, "Doc": {"d", "e"}, "Folder": {"f", "g", "h", "i"}}
	switch pick := d.from.Intn(12); {
	case pick == 0 && slots:
		return impl.Head{Kind: oneOf(d.from, []int{impl.HeadSlot, impl.HeadInSlot})}
	case pick <= 2:
		return refHead(impl.HeadSame, typ, oneOf(d.from, texts[typ]))
	case pick <= 5:
		return refHead(impl.HeadIn, up, oneOf(d.from, texts[up]))
	case pick <= 7:
		return isHead(oneOf(d.from, []string{typ, typ, typ, up}))
	}
	return anyHead()
}

// request draws one at the desk, often by another, of another action or resource.
func (d deskDrawer) request() impl.Request {
	r := deskRequest()
	r.Principal = refAtom("User", oneOf(d.from, []string{"ann", "bob", "gone"}))
	r.Action = refAtom("Action", oneOf(d.from, []string{"view", "read", "edit"}))
	if d.from.Intn(4) == 0 {
		r.Resource = refAtom("Folder", "g")
	}
	return r
}

func TestDrawnDecisions(t *testing.T) {
	d := deskDrawer{drawn()}
	list := deskThings()
	allowed, forbidden, silent, faulty := 0, 0, 0, 0
	for range 4000 {
		got := askDecide(t, list, d.request(), d.drawnPolicies(d.from.Intn(8)))
		switch {
		case got.Allow:
			allowed++
		case len(got.By) > 0:
			forbidden++
		default:
			silent++
		}
		faulty += len(got.Faulty)
	}
	if allowed < 400 || forbidden < 400 || silent < 400 || faulty < 400 {
		t.Errorf("allowed %d, forbidden %d, silent %d, faulty %d", allowed, forbidden, silent, faulty)
	}
}

// One more policy at any place: one that forbids never lets a request through that was not, one that permits never keeps one back that was not.
func TestOneMorePolicy(t *testing.T) {
	d := deskDrawer{drawn()}
	list := deskThings()
	turned := map[string]int{}
	for range 3000 {
		r := d.request()
		policies := d.drawnPolicies(1 + d.from.Intn(6))
		at := d.from.Intn(len(policies))
		more := policies[at]
		less := slices.Delete(slices.Clone(policies), at, at+1)
		for _, permit := range []bool{true, false} {
			more.Permit = permit
			policies[at] = more
			before, after := impl.Decide(list, r, less), impl.Decide(list, r, policies)
			if permit && before.Allow && !after.Allow || !permit && !before.Allow && after.Allow {
				t.Errorf("%s turns Allow from %v to %v, by %.300s", impl.PolicyText(more), before.Allow, after.Allow, shown(policies))
			}
			if before.Allow != after.Allow {
				turned[fmt.Sprint(permit, after.Allow)]++
			}
			// What is faulty is so by itself, and says nothing.
			own := impl.Decide(list, r, []impl.Policy{more})
			if len(after.Faulty) != len(before.Faulty)+len(own.Faulty) {
				t.Errorf("%s: faulty %v, before %v", impl.PolicyText(more), after.Faulty, before.Faulty)
			}
			if len(own.By) == 0 && (before.Allow != after.Allow || !slices.Equal(before.By, after.By)) {
				t.Errorf("%s does not apply, and changes %s to %s", impl.PolicyText(more), shown(before), shown(after))
			}
		}
	}
	if turned["true true"] < 100 || turned["false false"] < 50 || len(turned) != 2 {
		t.Errorf("turned %v", turned)
	}
}

// A template says nothing; one that is linked applies to what it was linked to, by either kind of slot.
func TestLinkedTemplatesApply(t *testing.T) {
	list := deskThings()
	slots := []impl.Head{{Kind: impl.HeadSlot}, {Kind: impl.HeadInSlot}}
	for _, principal := range append(slots, anyHead()) {
		for _, resource := range append(slots, anyHead()) {
			p := plainPolicy("t")
			p.Principal, p.Resource = principal, resource
			for ref := range deskAncestors() {
				for other := range deskAncestors() {
					r := impl.Request{Principal: refsOf(ref)[0], Action: refAtom("Action", "view"), Resource: refsOf(other)[0]}
					linked, ok := impl.LinkPolicy(p, "l", r.Principal, r.Resource)
					isTemplate := principal != anyHead() || resource != anyHead()
					if ok != isTemplate || impl.Decide(list, r, []impl.Policy{p}).Allow == isTemplate {
						t.Fatalf("%s: linked %v, or it applies", impl.PolicyText(p), ok)
					}
					if ok && !impl.Decide(list, r, []impl.Policy{linked}).Allow {
						t.Errorf("%s does not apply to what it was linked to", impl.PolicyText(linked))
					}
					r.Principal, r.Resource = refAtom("Zoo", "y"), refAtom("Zoo", "y")
					if ok && impl.Decide(list, r, []impl.Policy{linked}).Allow {
						t.Errorf("%s applies to another", impl.PolicyText(linked))
					}
				}
			}
		}
	}
}

// valueKind is a kind as values have it: a ref to what may not be there is a ref.
func valueKind(kind string) string {
	return strings.Replace(kind, "lit ", "ref ", 1)
}

// askKept evaluates an expression in a good world and holds the value to the kind that it has there; it answers that kind. The kind `context` is no value's.
func (w toldWorld) askKept(t *testing.T, e []impl.Expr) string {
	t.Helper()
	r := w.request
	kind := impl.KindOf(w.schema, e, r.Principal.Type, r.Action.Text, r.Resource.Type)
	if kind == "" || kind == "context" {
		return kind
	}
	v, fault := impl.EvalExpr(w.things, r, e)
	if fault != 0 || !impl.FitsKind(v, valueKind(kind)) {
		t.Errorf("%s has the kind %q, and gives %s, %d, in %.500s", impl.ExprText(e), kind, impl.ValueText(v), fault, shown(w))
	}
	return kind
}

func TestValuesAreOfTheirKindsInTheLab(t *testing.T) {
	found := map[string]int{}
	faults := 0
	for _, c := range harmless() {
		w := labWorld()
		if c.change(&w); !impl.GoodWorld(w.schema, w.things, w.request) {
			t.Fatalf("%s: not good", c.what)
		}
		for text := range kindsInLab() {
			e := exprText(text)
			found[w.askKept(t, e)]++
			askEval(t, w.things, w.request, e)
			if _, fault := impl.EvalExpr(w.things, w.request, e); fault != 0 {
				faults++
			}
		}
	}
	if found["bool"] < 1500 || found["num"] < 200 || found["lit User"] < 50 || found["set ref User"] < 50 || faults < 2000 {
		t.Errorf("found %v, faults %d", found, faults)
	}
}

// Drawn expressions in drawn good worlds of drawn schemas.
func TestValuesAreOfTheirKinds(t *testing.T) {
	from := drawn()
	found := map[string]int{}
	guarded, faults := 0, 0
	for range 500 {
		s := drawnPolSchema(from)
		for range 4 {
			w := drawnWorld(kindDrawer{from, kindCase{schema: s}}).varied(from)
			if !impl.GoodWorld(w.schema, w.things, w.request) {
				continue
			}
			c := kindCase{s, w.request.Principal.Type, w.request.Action.Text, w.request.Resource.Type}
			d := kindDrawer{from, c}
			for range 20 {
				e := d.draw(d.anyKind(), 2+from.Intn(6), nil)
				if !goodExprByWords(e) {
					continue
				}
				kind := w.askKept(t, e)
				found[strings.SplitN(kind, " ", 2)[0]]++
				if kind != "" && kindIsGuarded(c, e) {
					guarded++
				}
				outcome := askEval(t, w.things, w.request, e)
				if outcome[0] == '!' {
					faults++
				}
			}
		}
	}
	if found["bool"] < 3000 || found["ref"] < 200 || found["lit"] < 200 || found["set"] < 200 || found[""] < 1000 || guarded < 500 || faults < 500 {
		t.Errorf("found %v, guarded %d, faults %d", found, guarded, faults)
	}
}

func TestPoliciesWithoutKindFaultsAreNeverFaulty(t *testing.T) {
	from := drawn()
	sound, applied, faulty := 0, 0, 0
	for range 400 {
		s := drawnPolSchema(from)
		types := append(thingNames(s), "Action", "C")
		texts := append(actionIds(s), "x0", "x1")
		var policies []impl.Policy
		for i := range impl.MaxPolicies {
			own := s.Actions[0]
			d := kindDrawer{from, kindCase{s, own.Principals[0], own.Id, own.Resources[0]}}
			p := impl.Policy{Id: fmt.Sprint("p", 100+i), Permit: from.Intn(2) == 0, Principal: drawnHead(from, types, texts, true), Action: drawnHead(from, append(types, "Action", "Action", "Action"), texts, false), Resource: drawnHead(from, types, texts, true), When: d.draw("bool", 2+from.Intn(4), nil)}
			if goodPolicyByWords(p) {
				policies = append(policies, p)
			}
		}
		for range 4 {
			w := drawnWorld(kindDrawer{from, kindCase{schema: s}}).varied(from)
			if !impl.GoodWorld(w.schema, w.things, w.request) {
				continue
			}
			d := askDecide(t, w.things, w.request, policies)
			for _, p := range policies {
				own := impl.Decide(w.things, w.request, []impl.Policy{p})
				if slices.Contains(d.Faulty, p.Id) != (len(own.Faulty) > 0) {
					t.Errorf("%s is faulty among others, or alone", impl.PolicyText(p))
				}
				if faulty += len(own.Faulty); len(impl.KindFaults(s, p)) > 0 {
					continue
				}
				if sound++; len(own.Faulty) > 0 {
					t.Errorf("%s has no kind faults, and is faulty in %.500s", impl.PolicyText(p), shown(w))
				}
				applied += len(own.By)
			}
		}
	}
	if sound < 5000 || applied < 1000 || faulty < 200 {
		t.Errorf("%d without kind faults, %d applied, %d faulty", sound, applied, faulty)
	}
}
