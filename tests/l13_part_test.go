package tests

import (
	"fmt"
	"slices"
	"strings"
	"testing"

	"loop.example/g00036/impl"
)

func askFold(t *testing.T, list []impl.Thing, r impl.Request, e []impl.Expr, unknown []string) []impl.Expr {
	t.Helper()
	want := foldByWords(list, r, e, unknown)
	if got := impl.FoldExpr(list, r, e, unknown); !slices.Equal(got, want) || len(got) == 0 && cap(got) != 0 {
		t.Errorf("FoldExpr(%.300s, %.300s, %.300s, %.200q): got %.300s, want %.300s", shown(list), shown(r), impl.ExprText(e), unknown, impl.ExprText(got), impl.ExprText(want))
	}
	return want
}

func askResidual(t *testing.T, list []impl.Thing, r impl.Request, policies []impl.Policy, unknown []string) []impl.Policy {
	t.Helper()
	want := residualByWords(list, r, policies, unknown)
	if got := impl.Residual(list, r, policies, unknown); !slices.EqualFunc(got, want, samePolicy) || len(got) == 0 && cap(got) != 0 {
		t.Errorf("Residual(%.300s, %.300s, %.300s, %.200q): got %.300s, want %.300s", shown(list), shown(r), policiesText(policies), unknown, policiesText(got), policiesText(want))
	}
	return want
}

func askSlicePolicies(t *testing.T, list []impl.Thing, r impl.Request, policies []impl.Policy) []impl.Policy {
	t.Helper()
	want := slicePoliciesByWords(list, r, policies)
	if got := impl.SlicePolicies(list, r, policies); !slices.EqualFunc(got, want, samePolicy) || len(got) == 0 && cap(got) != 0 {
		t.Errorf("SlicePolicies(%.300s, %.300s, %.300s): got %.300s, want %.300s", shown(list), shown(r), policiesText(policies), policiesText(got), policiesText(want))
	}
	return want
}

func askSliceThings(t *testing.T, list []impl.Thing, r impl.Request, policies []impl.Policy) []impl.Thing {
	t.Helper()
	want := sliceThingsByWords(list, r, policies)
	if got := impl.SliceThings(list, r, policies); !slices.EqualFunc(got, want, sameThing) || len(got) == 0 && cap(got) != 0 {
		t.Errorf("SliceThings(%.500s, %.300s, %.300s): got %.500s, want %.500s", shown(list), shown(r), policiesText(policies), shown(got), shown(want))
	}
	return want
}

// policiesText is the lines of good policies; one that is not good is an empty line.
func policiesText(policies []impl.Policy) string {
	text := ""
	for _, p := range policies {
		text += impl.PolicyText(p) + "\n"
	}
	return text
}

// policiesOf are those of lines that have some.
func policiesOf(text string) []impl.Policy {
	res := impl.ReadPolicies(text)
	if res.Err != 0 {
		panic("no policies: " + text)
	}
	return res.Policies
}

func TestWhatMayBeUnknown(t *testing.T) {
	list, r := deskThings(), deskRequest()
	e := exprText("1 + 2 == context.n")
	policies := []impl.Policy{plainPolicy("p")}
	for _, unknown := range goodUnknowns() {
		want := "true"
		if slices.Contains(unknown, "context") || slices.Contains(unknown, "context.n") {
			want = "3 == context.n"
		}
		if got := impl.ExprText(impl.FoldExpr(list, r, e, unknown)); got != want {
			t.Errorf("%.300q: got %q, want %q", unknown, got, want)
		}
		if got := impl.Residual(list, r, policies, unknown); !slices.EqualFunc(got, policies, samePolicy) {
			t.Errorf("%.300q: got %s", unknown, policiesText(got))
		}
		askFold(t, list, r, e, unknown)
	}
	for _, unknown := range badUnknowns() {
		if got := impl.FoldExpr(list, r, e, unknown); len(got) != 0 || cap(got) != 0 {
			t.Errorf("%.300q: FoldExpr: got %s", unknown, impl.ExprText(got))
		}
		if got := impl.Residual(list, r, policies, unknown); len(got) != 0 || cap(got) != 0 {
			t.Errorf("%.300q: Residual: got %s", unknown, policiesText(got))
		}
		if goodUnknownByWords(unknown) {
			t.Errorf("%.300q: as said, by the words", unknown)
		}
	}
	for many := range 35 {
		if got := impl.FoldExpr(list, r, e, contextWords(many)); (len(got) > 0) != (many <= 30) {
			t.Errorf("%d unknown: got %s", many, impl.ExprText(got))
		}
	}
}

func TestFoldExpr(t *testing.T) {
	list, r := deskThings(), deskRequest()
	for _, c := range foldsAtDesk() {
		e := exprText(c.text)
		if got := impl.ExprText(impl.FoldExpr(list, r, e, c.unknown)); got != c.want {
			t.Errorf("%s, %q unknown: got %s, want %s", c.text, c.unknown, got, c.want)
		}
		askFold(t, list, r, e, c.unknown)
	}
}

// Each expression of the table by each list of what is unknown.
func TestFoldsByEachUnknown(t *testing.T) {
	list, r := deskThings(), deskRequest()
	for _, c := range foldsAtDesk() {
		e := exprText(c.text)
		for _, word := range unknownWords() {
			askFold(t, list, r, e, []string{word})
		}
		askFold(t, list, r, e, nil)
		askFold(t, list, r, e, []string{"action", "context", "principal", "resource"})
		askFold(t, nil, r, e, c.unknown)
	}
}

// Where nothing is unknown an expression is its value, if that is an atom, and stays otherwise.
func TestFoldOfWhatIsKnown(t *testing.T) {
	list, r := deskThings(), deskRequest()
	for text, outcome := range deskOutcomes() {
		e := exprText(text)
		want := outcome
		if outcome[0] == '!' || outcome[0] == '[' {
			want = text
		}
		for _, unknown := range [][]string{nil, {"context.zap"}} {
			if got := impl.ExprText(impl.FoldExpr(list, r, e, unknown)); got != want {
				t.Errorf("%s: got %s, want %s", text, got, want)
			}
		}
	}
	for _, f := range goodFields() {
		r := impl.Request{Principal: refAtom("A", "a"), Action: refAtom("A", "a"), Resource: refAtom("A", "a"), Names: f.names, Values: f.values}
		for i, name := range f.names {
			e := getExpr(varExpr("context"), name)
			want := litExpr(f.values[i].Atom)
			if f.values[i].Kind == impl.ValueSet {
				want = e
			}
			if got := impl.FoldExpr(nil, r, e, nil); !slices.Equal(got, want) {
				t.Errorf("context.%s: got %.300s", name, shown(got))
			}
			if got := impl.FoldExpr(nil, r, e, []string{"context." + name}); !slices.Equal(got, e) {
				t.Errorf("context.%s, unknown: got %.300s", name, shown(got))
			}
		}
	}
	for _, g := range goodAtoms() {
		for _, e := range [][]impl.Expr{litExpr(g.atom), setExpr(g.atom, g.atom)} {
			if got := impl.FoldExpr(nil, plainRequest(), e, []string{"action", "context", "principal", "resource"}); !slices.Equal(got, e) {
				t.Errorf("%.300s: got %.300s", g.text, shown(got))
			}
		}
	}
}

// askSameOutcome holds an expression against what it folds to, by a request of which the unknown parts are others.
func askSameOutcome(t *testing.T, list []impl.Thing, r impl.Request, e []impl.Expr, folded []impl.Expr) string {
	t.Helper()
	want := evalText(list, r, e)
	if got := evalText(list, r, folded); got != want {
		t.Errorf("%s gives %s, folded to %s it gives %s, by %.500s", impl.ExprText(e), want, impl.ExprText(folded), got, shown(r))
	}
	return want
}

// Each kind of nodes with kids of each sort, and all that the one unknown field may turn out to be.
func TestFoldsOfNodesByTheirKids(t *testing.T) {
	list, r := deskThings()[7:], deskRequest()
	unknown := []string{"context.n"}
	scene := wordScene{list, r}
	folds := map[string]int{}
	ask := func(e []impl.Expr, values []string) {
		want := scene.fold(e, unknown)
		got := impl.FoldExpr(list, r, e, unknown)
		if !slices.Equal(got, want) {
			t.Fatalf("%s: got %s, want %s", impl.ExprText(e), impl.ExprText(got), impl.ExprText(want))
		}
		switch {
		case len(got) < len(e) && len(got) == 1:
			folds["one node"]++
		case len(got) < len(e):
			folds["fewer"]++
		default:
			folds["all"]++
		}
		for _, value := range values {
			askSameOutcome(t, list, withField(r, "n", value), e, got)
		}
	}
	var kids [][]impl.Expr
	for _, text := range sidesOfFolds() {
		kids = append(kids, exprText(text))
	}
	values := valuesOfUnknown()
	for i, a := range kids {
		ask(a, values)
		for _, e := range [][]impl.Expr{notExpr(a), negExpr(a), exprOf(impl.ExprLike, "*", a), exprOf(impl.ExprIs, "User", a), exprOf(impl.ExprHas, "age", a), exprOf(impl.ExprHas, "n", a), getExpr(a, "age"), getExpr(a, "n"), getExpr(a, "ok")} {
			ask(e, values)
		}
		for j, b := range kids {
			for kind := range pairKinds() {
				ask(exprOf(kind, "", a, b), values[(i+j)%2:5])
			}
			for k, c := range kids {
				ask(ifExpr(a, b, c), values[(i+j+k)%6:][:1])
			}
		}
	}
	if folds["one node"] < 500 || folds["fewer"] < 2000 || folds["all"] < 2000 {
		t.Errorf("folds %v", folds)
	}
}

// All expressions of up to six nodes out of few: two literals, a ref that is known or not, and what asks for the context.
func TestFoldsOfAllSmallExprs(t *testing.T) {
	nodes := [4][]impl.Expr{
		{{Kind: impl.ExprLit, Atom: boolAtom(1)}, {Kind: impl.ExprLit, Atom: boolAtom(0)}, {Kind: impl.ExprVar, Text: "resource"}, {Kind: impl.ExprVar, Text: "context"}},
		{{Kind: impl.ExprGet, Text: "b"}, {Kind: impl.ExprNot}, {Kind: impl.ExprHas, Text: "b"}},
		{{Kind: impl.ExprAnd}, {Kind: impl.ExprOr}, {Kind: impl.ExprPlus}},
		{{Kind: impl.ExprIf}},
	}
	list := []impl.Thing{thingOf(refAtom("T", "f"), "b=false"), thingOf(refAtom("T", "t"), "b=true")}
	r := impl.Request{Principal: refAtom("T", "f"), Action: refAtom("T", "f"), Resource: refAtom("T", "t"), Names: []string{"b"}, Values: []impl.Value{atomValue(boolAtom(1))}}
	others := map[string][]impl.Request{
		"resource":  {r, r, r},
		"context.b": {withField(r, "b", ""), withField(r, "b", "true"), withField(r, "b", "false"), withField(r, "b", "1")},
	}
	for i, text := range []string{"f", "t", "z"} {
		others["resource"][i].Resource = refAtom("T", text)
	}
	scene := wordScene{list, r}
	asked, changed := 0, 0
	ask := func(e []impl.Expr) {
		for word, requests := range others {
			asked++
			got := impl.FoldExpr(list, r, e, []string{word})
			if want := scene.fold(e, []string{word}); !slices.Equal(got, want) {
				t.Fatalf("%s, %s unknown: got %s, want %s", impl.ExprText(e), word, impl.ExprText(got), impl.ExprText(want))
			}
			if !slices.Equal(got, e) {
				changed++
				askSameOutcome(t, list, requests[asked%len(requests)], e, got)
			}
		}
	}
	bySize := [][][]impl.Expr{nil}
	for size := 1; size <= 6; size++ {
		var all [][]impl.Expr
		for kids, own := range nodes {
			for _, n := range own {
				n.Kids = kids
				for _, behind := range rowsOfExprs(bySize, kids, size-1) {
					all = append(all, append([]impl.Expr{n}, behind...))
				}
			}
		}
		for _, e := range all {
			ask(e)
		}
		bySize = append(bySize, all)
	}
	if asked < 90000 || changed < 15000 {
		t.Errorf("%d asked, %d changed", asked, changed)
	}
}

// Drawn expressions: whatever the unknown parts turn out to be, they give the same folded; and what the request says of these counts for nothing.
func TestDrawnFolds(t *testing.T) {
	d := deskDrawer{drawn()}
	list := deskThings()
	found := map[string]int{}
	turned := 0
	for range 12000 {
		e := d.draw(d.form(), 2+d.from.Intn(5))
		if !goodExprByWords(e) {
			continue
		}
		r, unknown := d.request(), d.unknown()
		folded := askFold(t, list, r, e, unknown)
		if !impl.GoodExpr(folded) || len(folded) > len(e) {
			t.Fatalf("%s folds to %s", impl.ExprText(e), shown(folded))
		}
		first := askSameOutcome(t, list, r, e, folded)
		for range 3 {
			other := d.otherwise(r, unknown)
			if got := impl.FoldExpr(list, other, e, unknown); !slices.Equal(got, folded) {
				t.Errorf("%s, %q unknown: folds to %s, or to %s where these are others", impl.ExprText(e), unknown, impl.ExprText(folded), impl.ExprText(got))
			}
			outcome := askSameOutcome(t, list, other, e, folded)
			if outcome != first {
				turned++
			}
			// What is unknown at first may be told later, part by part.
			later := unknown[:d.from.Intn(len(unknown)+1)]
			askSameOutcome(t, list, d.otherwise(other, later), e, impl.FoldExpr(list, other, folded, later))
			if outcome[0] != '!' {
				outcome = formOf(outcome)
			}
			found[outcome]++
		}
		switch {
		case len(folded) == len(e):
			found["whole"]++
		case folded[0].Kind == impl.ExprLit:
			found["lit"]++
		default:
			found["less"]++
		}
	}
	if found["whole"] < 1000 || found["lit"] < 1000 || found["less"] < 500 || found["!1"] < 500 || found["!2"] < 500 || found["bool"] < 2000 || turned < 1000 {
		t.Errorf("found %v, turned %d", found, turned)
	}
}

// Expressions at their limits: all nodes, and all within each other.
func TestFoldOfTheGreatestExprs(t *testing.T) {
	list, r := deskThings(), deskRequest()
	unknown := []string{"resource"}
	for within := 2; within <= 14; within++ {
		known, other := exprText("principal.age"), exprText("resource.num")
		tests, before := exprText("resource has num"), exprText("resource has num")
		for range within - 2 {
			known, other = exprOf(impl.ExprPlus, "", numExpr(1), known), exprOf(impl.ExprPlus, "", exprText("1"), other)
			tests = exprOf(impl.ExprAnd, "", exprText("true"), tests)
		}
		wantKnown, wantOther, wantTests := numExpr(20+within-2), other, before
		if within > 12 {
			wantKnown, wantOther, wantTests = nil, nil, nil
		}
		if got := impl.FoldExpr(list, r, known, unknown); !slices.Equal(got, wantKnown) {
			t.Errorf("%d within each other, known: got %s", within, shown(got))
		}
		if got := impl.FoldExpr(list, r, other, unknown); !slices.Equal(got, wantOther) {
			t.Errorf("%d within each other: got %s", within, shown(got))
		}
		if got := impl.FoldExpr(list, r, tests, unknown); !slices.Equal(got, wantTests) {
			t.Errorf("%d within each other, tests: got %s", within, shown(got))
		}
		for _, e := range deepExprs(within) {
			askFold(t, list, r, e, unknown)
			for i := range e {
				if e[i] == numExpr(1)[0] {
					e[i] = varExpr("resource")[0]
				}
			}
			askFold(t, list, r, e, unknown)
		}
	}
	for nodes := 1; nodes <= 62; nodes++ {
		for _, leaf := range []impl.Expr{varExpr("resource")[0], litExpr(boolAtom(1))[0], numExpr(1)[0]} {
			e := broadExpr(nodes)
			for i := range e {
				if e[i].Kind == impl.ExprLit {
					e[i] = leaf
				}
			}
			if got := impl.FoldExpr(list, r, e, unknown); (len(got) > 0) != (nodes <= impl.MaxExprs) || leaf.Kind == impl.ExprVar && nodes <= impl.MaxExprs && !slices.Equal(got, e) {
				t.Errorf("%d nodes: got %d", nodes, len(got))
			}
			askFold(t, list, r, e, unknown)
		}
	}
	for nodes := 6; nodes <= 61; nodes++ {
		askFold(t, list, r, broadSets(nodes), unknown)
		askFold(t, list, r, exprOf(impl.ExprSame, "", varExpr("resource"), broadSets(nodes)), unknown)
	}
}

func TestFoldOfNoGoodOnes(t *testing.T) {
	e := exprText("true")
	none := func(list []impl.Thing, r impl.Request, e []impl.Expr) {
		t.Helper()
		for _, unknown := range [][]string{nil, {"action", "context", "principal", "resource"}} {
			if got := impl.FoldExpr(list, r, e, unknown); len(got) != 0 || cap(got) != 0 {
				t.Errorf("FoldExpr(%.200s, %.200s, %.200s, %q): got %.200s", shown(list), shown(r), shown(e), unknown, shown(got))
			}
		}
	}
	if got := impl.FoldExpr(deskThings(), deskRequest(), e, nil); !slices.Equal(got, e) {
		t.Fatalf("true: got %s", shown(got))
	}
	for _, list := range badThingLists() {
		none(list, deskRequest(), e)
	}
	for _, r := range badRequests() {
		none(deskThings(), r, e)
	}
	for _, e := range badExprs() {
		none(deskThings(), deskRequest(), e)
	}
	for _, list := range goodThingLists() {
		askFold(t, list, deskRequest(), exprText(`principal has a && resource has a`), []string{"resource"})
	}
	for _, r := range goodRequests() {
		askFold(t, deskThings(), r, exprText(`context has a && resource has a || principal == resource`), []string{"resource"})
	}
}

// residualCase is a policy, with what is left of it where that is unknown; `=` is one that stays as it is, the empty text one that is left out.
type residualCase struct {
	unknown string
	policy  string
	want    string
}

func residualCases() []residualCase {
	return []residualCase{
		// Heads of what is known.
		{"", `(principal, action, resource)`, "="},
		{"", `(principal == User::"ann", action, resource)`, `(principal, action, resource)`},
		{"", `(principal == User::"bob", action, resource)`, ""},
		{"", `(principal in Group::"top", action, resource)`, `(principal, action, resource)`},
		{"", `(principal in Group::"k", action, resource)`, ""},
		{"", `(principal is User, action, resource)`, `(principal, action, resource)`},
		{"", `(principal is Doc, action, resource)`, ""},
		{"", `(principal == ?, action, resource)`, ""},
		{"", `(principal in ?, action, resource)`, ""},
		{"", `(principal, action == Action::"view", resource)`, `(principal, action, resource)`},
		{"", `(principal, action == Action::"read", resource)`, ""},
		{"", `(principal, action in Action::"read", resource)`, `(principal, action, resource)`},
		{"", `(principal, action in Action::"edit", resource)`, ""},
		{"", `(principal, action is Action, resource)`, `(principal, action, resource)`},
		{"", `(principal, action is User, resource)`, ""},
		{"", `(principal, action, resource == Doc::"d")`, `(principal, action, resource)`},
		{"", `(principal, action, resource == Doc::"e")`, ""},
		{"", `(principal, action, resource in Folder::"h")`, `(principal, action, resource)`},
		{"", `(principal, action, resource in Folder::"i")`, ""},
		{"", `(principal, action, resource is Doc)`, `(principal, action, resource)`},
		{"", `(principal, action, resource is Folder)`, ""},
		{"", `(principal, action, resource == ?)`, ""},
		{"", `(principal, action, resource in ?)`, ""},
		{"", `(principal in Group::"g", action in Action::"read", resource in Folder::"f")`, `(principal, action, resource)`},
		{"", `(principal in Group::"g", action in Action::"read", resource in Folder::"x")`, ""},
		{"context", `(principal == User::"bob", action, resource)`, ""},
		{"context context.n", `(principal is User, action is Action, resource is Doc)`, `(principal, action, resource)`},

		// Heads of what is unknown stay, and those of what is known do not.
		{"principal", `(principal == User::"ann", action, resource)`, "="},
		{"principal", `(principal == User::"bob", action, resource)`, "="},
		{"principal", `(principal in Group::"k", action, resource)`, "="},
		{"principal", `(principal is Doc, action, resource)`, "="},
		{"principal", `(principal == ?, action, resource)`, "="},
		{"principal", `(principal in ?, action, resource)`, "="},
		{"principal", `(principal == ?, action is Action, resource is Doc)`, `(principal == ?, action, resource)`},
		{"principal", `(principal == User::"ann", action == Action::"read", resource)`, ""},
		{"principal", `(principal is User, action, resource == ?)`, ""},
		{"action", `(principal, action == Action::"view", resource)`, "="},
		{"action", `(principal, action == Action::"read", resource)`, "="},
		{"action", `(principal, action in Action::"edit", resource)`, "="},
		{"action", `(principal, action is User, resource)`, "="},
		{"action", `(principal is User, action is User, resource is Doc)`, `(principal, action is User, resource)`},
		{"action", `(principal is Doc, action, resource)`, ""},
		{"resource", `(principal, action, resource == Doc::"d")`, "="},
		{"resource", `(principal, action, resource == Doc::"e")`, "="},
		{"resource", `(principal, action, resource in Folder::"i")`, "="},
		{"resource", `(principal, action, resource is Folder)`, "="},
		{"resource", `(principal, action, resource == ?)`, "="},
		{"resource", `(principal, action, resource in ?)`, "="},
		{"resource", `(principal in Group::"g", action, resource == Doc::"e")`, `(principal, action, resource == Doc::"e")`},
		{"resource", `(principal == ?, action, resource in ?)`, ""},
		{"action principal resource", `(principal == User::"x", action is User, resource in ?)`, "="},
		{"action context principal resource", `(principal, action, resource)`, "="},

		// What the When folds to.
		{"", `(principal, action, resource) when true`, `(principal, action, resource)`},
		{"", `(principal, action, resource) when false`, ""},
		{"", `(principal, action, resource) when principal.age < 21`, `(principal, action, resource)`},
		{"", `(principal, action, resource) when principal.age < 20`, ""},
		{"", `(principal, action, resource) when 5`, "="},
		{"", `(principal, action, resource) when 1`, "="},
		{"", `(principal, action, resource) when 0`, "="},
		{"", `(principal, action, resource) when 1 + 2`, `(principal, action, resource) when 3`},
		{"", `(principal, action, resource) when "true"`, "="},
		{"", `(principal, action, resource) when principal`, `(principal, action, resource) when User::"ann"`},
		{"", `(principal, action, resource) when []`, "="},
		{"", `(principal, action, resource) when [true]`, "="},
		{"", `(principal, action, resource) when principal.hat`, "="},
		{"", `(principal is User, action, resource) when principal.hat`, `(principal, action, resource) when principal.hat`},
		{"", `(principal is Doc, action, resource) when principal.hat`, ""},
		{"", `(principal, action, resource) when context`, "="},
		{"resource", `(principal, action, resource) when principal is User`, `(principal, action, resource)`},
		{"resource", `(principal, action, resource == Doc::"e") when principal is User`, `(principal, action, resource == Doc::"e")`},
		{"resource", `(principal, action, resource) when principal is Doc`, ""},
		{"resource", `(principal, action, resource in ?) when principal is Doc`, ""},
		{"resource", `(principal, action, resource) when principal is User || resource.a`, `(principal, action, resource)`},
		{"resource", `(principal, action, resource) when principal is Doc && resource.a`, ""},
		{"resource", `(principal, action, resource) when principal is User && resource.a`, `(principal, action, resource) when true && resource.a`},
		{"resource", `(principal, action, resource) when principal is User && resource has a`, `(principal, action, resource) when resource has a`},
		{"resource", `(principal, action, resource) when resource has a && principal is Doc`, `(principal, action, resource) when resource has a && false`},
		{"resource", `(principal, action, resource) when resource has a || principal is User`, `(principal, action, resource) when resource has a || true`},
		{"resource", `(principal, action, resource) when if principal is User then true else resource`, `(principal, action, resource)`},
		{"resource", `(principal, action, resource) when if principal is User then false else resource`, ""},
		{"resource", `(principal, action, resource) when if principal is User then 5 else resource`, `(principal, action, resource) when 5`},
		{"resource", `(principal, action, resource) when if principal is User then principal.hat else resource`, `(principal, action, resource) when principal.hat`},
		{"resource", `(principal, action, resource) when !(true || resource.a)`, `(principal, action, resource) when !true`},
		{"resource", `(principal, action, resource) when resource`, "="},
		{"resource", `(principal, action, resource) when principal.hat`, "="},
		{"principal", `(principal == User::"bob", action, resource is Doc) when resource.owner == principal`, `(principal == User::"bob", action, resource) when User::"ann" == principal`},
		{"context", `(principal is User, action, resource) when context.n < principal.age`, `(principal, action, resource) when context.n < 20`},
		{"context.n", `(principal is User, action, resource) when context.ok && context.n < 9`, `(principal, action, resource) when context.n < 9`},
		{"context.ok", `(principal is User, action, resource) when context.ok && context.n < 9`, `(principal, action, resource) when context.ok && true`},
		{"context.zip", `(principal is User, action, resource) when context.ok && context.n < 9`, `(principal, action, resource)`},
	}
}

func TestResidual(t *testing.T) {
	list, r := deskThings(), deskRequest()
	for _, c := range residualCases() {
		unknown := strings.Fields(c.unknown)
		for _, word := range []string{"permit", "forbid"} {
			policies := policiesOf(word + ` "p" ` + c.policy + ";\n")
			want := word + ` "p" ` + c.want + ";\n"
			switch c.want {
			case "":
				want = ""
			case "=":
				want = word + ` "p" ` + c.policy + ";\n"
			}
			if got := policiesText(impl.Residual(list, r, policies, unknown)); got != want {
				t.Errorf("%s, %q unknown: got %s, want %s", policiesText(policies), unknown, got, want)
			}
			for _, others := range goodUnknowns() {
				askResidual(t, list, r, policies, others)
			}
		}
	}
}

// All policies of the table in one list: what is left stands in order, with its Id, and permits or forbids as it did.
func TestResidualOfManyPolicies(t *testing.T) {
	list, r := deskThings(), deskRequest()
	cases := residualCases()
	for from := range cases {
		var all []impl.Policy
		for i := range min(impl.MaxPolicies, len(cases)) {
			p := policiesOf(`permit "p" ` + cases[(from+i)%len(cases)].policy + ";\n")[0]
			p.Id, p.Permit = fmt.Sprint("p", 100+i), i%3 > 0
			all = append(all, p)
		}
		for _, unknown := range [][]string{nil, {"resource"}, {"principal"}, {"action", "context.n"}} {
			left := askResidual(t, list, r, all, unknown)
			var alone []impl.Policy
			for _, p := range all {
				alone = append(alone, impl.Residual(list, r, []impl.Policy{p}, unknown)...)
			}
			if !slices.EqualFunc(left, alone, samePolicy) {
				t.Errorf("%q unknown: %s, one by one %s", unknown, policiesText(left), policiesText(alone))
			}
		}
	}
}

// headPlace is one of the three places of a head, with the ref that it asks for at the desk.
type headPlace struct {
	word string
	ref  string
	head func(p *impl.Policy) *impl.Head
}

func headPlaces() []headPlace {
	return []headPlace{
		{"principal", `User::"ann"`, func(p *impl.Policy) *impl.Head { return &p.Principal }},
		{"action", `Action::"view"`, func(p *impl.Policy) *impl.Head { return &p.Action }},
		{"resource", `Doc::"d"`, func(p *impl.Policy) *impl.Head { return &p.Resource }},
	}
}

// leftByHead is what is left of a plain policy with one head of another kind and that When: nothing where the second answer is false.
func leftByHead(place headPlace, h impl.Head, matches bool, when string, unknown []string) (impl.Policy, bool) {
	p := plainPolicy("p")
	known := !slices.Contains(unknown, place.word)
	if !known {
		*place.head(&p) = h
	}
	// At the desk the resource has no `a`.
	if when == "resource has a" && !slices.Contains(unknown, "resource") {
		when = "false"
	}
	if when != "" && when != "true" {
		p.When = exprText(when)
	}
	return p, when != "false" && (matches || !known)
}

// Every head in each of the three places, known or not.
func TestResidualByHeads(t *testing.T) {
	list, r := deskThings(), deskRequest()
	left, out, stayed := 0, 0, 0
	ask := func(place headPlace, h impl.Head, matches bool, when string) {
		p := plainPolicy("p")
		*place.head(&p) = h
		if when != "" {
			p.When = exprText(when)
		}
		for _, unknown := range [][]string{nil, {"action"}, {"principal"}, {"resource"}, {"action", "principal"}, {"action", "resource"}, {"principal", "resource"}, {"action", "principal", "resource"}} {
			var want []impl.Policy
			own, ok := leftByHead(place, h, matches, when, unknown)
			switch {
			case ok && slices.Contains(unknown, place.word):
				want = []impl.Policy{own}
				stayed++
			case ok:
				want = []impl.Policy{own}
				left++
			default:
				out++
			}
			if got := impl.Residual(list, r, []impl.Policy{p}, unknown); !slices.EqualFunc(got, want, samePolicy) {
				t.Errorf("%s, %q unknown: got %s, want %s", impl.PolicyText(p), unknown, policiesText(got), policiesText(want))
			}
			askResidual(t, list, r, []impl.Policy{p}, unknown)
		}
	}
	for _, place := range headPlaces() {
		for h, matches := range headsAt(place.ref) {
			if place.word == "action" && (h.Kind == impl.HeadSlot || h.Kind == impl.HeadInSlot) {
				continue
			}
			for _, when := range []string{"", "true", "resource has a", "5", "false"} {
				ask(place, h, matches, when)
			}
		}
	}
	if left < 200 || out < 1000 || stayed < 500 {
		t.Errorf("left %d, out %d, stayed %d", left, out, stayed)
	}
}

// Drawn policies: whatever the unknown parts turn out to be, what is left decides as all do; and what the request says of these counts for nothing.
func TestDrawnResiduals(t *testing.T) {
	d := deskDrawer{drawn()}
	list := deskThings()
	found := map[string]int{}
	for range 2500 {
		r, unknown, policies := d.request(), d.unknown(), d.drawnPolicies(d.from.Intn(9))
		left := askResidual(t, list, r, policies, unknown)
		first := impl.Decide(list, r, policies)
		for range 4 {
			other := d.otherwise(r, unknown)
			want := impl.Decide(list, other, policies)
			if got := impl.Decide(list, other, left); !sameDecision(got, want) {
				t.Errorf("%s decide %s, what is left of them where %q is unknown, %s, decides %s, by %.500s", policiesText(policies), shown(want), unknown, policiesText(left), shown(got), shown(other))
			}
			if got := impl.Residual(list, other, policies, unknown); !slices.EqualFunc(got, left, samePolicy) {
				t.Errorf("%s, %q unknown: left %s, or %s where these are others", policiesText(policies), unknown, policiesText(left), policiesText(got))
			}
			// What is unknown at first may be told later, part by part.
			later := unknown[:d.from.Intn(len(unknown)+1)]
			last := d.otherwise(other, later)
			if got, want := impl.Decide(list, last, impl.Residual(list, other, left, later)), impl.Decide(list, last, policies); !sameDecision(got, want) {
				t.Errorf("%s decide %s, what is left of what is left %s", policiesText(policies), shown(want), shown(got))
			}
			if !sameDecision(want, first) {
				found["turned"]++
			}
			found[fmt.Sprint("allow ", want.Allow)]++
			found["faulty"] += len(want.Faulty)
		}
		found["left"] += len(left)
		found["out"] += len(policies) - len(left)
	}
	if found["turned"] < 500 || found["allow true"] < 500 || found["allow false"] < 500 || found["faulty"] < 500 || found["left"] < 2000 || found["out"] < 2000 {
		t.Errorf("found %v", found)
	}
}

// Where nothing is unknown the policies are left that apply, without a head or When, and those that are faulty.
func TestResidualOfWhatIsKnown(t *testing.T) {
	d := deskDrawer{drawn()}
	list := deskThings()
	applied, faulty := 0, 0
	for range 1500 {
		r, policies := d.request(), d.drawnPolicies(d.from.Intn(9))
		var want []string
		for _, p := range policies {
			own := impl.Decide(list, r, []impl.Policy{p})
			want = append(append(want, own.By...), own.Faulty...)
			applied, faulty = applied+len(own.By), faulty+len(own.Faulty)
		}
		var got []string
		for _, p := range impl.Residual(list, r, policies, nil) {
			got = append(got, p.Id)
			own := impl.Decide(list, r, []impl.Policy{p})
			if p.Principal != anyHead() || p.Action != anyHead() || p.Resource != anyHead() || (len(p.When) > 0) != (len(own.Faulty) > 0) {
				t.Errorf("left of known ones: %s", impl.PolicyText(p))
			}
		}
		if !slices.Equal(got, want) {
			t.Errorf("%s: left %v, want %v", policiesText(policies), got, want)
		}
	}
	if applied < 500 || faulty < 100 {
		t.Errorf("%d applied, %d faulty", applied, faulty)
	}
}

func TestResidualAtItsLimits(t *testing.T) {
	list, r := deskThings(), deskRequest()
	for _, many := range []int{0, 1, 39, 40, 41, 3000} {
		policies, _ := countedPolicies(many)
		want := many
		if many > impl.MaxPolicies {
			want = 0
		}
		for i := range policies {
			policies[i].Principal = refHead(impl.HeadIn, "Group", "top")
			policies[i].When = exprText("principal is User && resource has a")
		}
		if got := impl.Residual(list, r, policies, []string{"resource"}); len(got) != want {
			t.Errorf("%d policies: %d left", many, len(got))
		}
		if got := impl.SlicePolicies(list, r, policies); len(got) != want {
			t.Errorf("%d policies: a slice of %d", many, len(got))
		}
		if got := impl.SliceThings(list, r, policies); (len(got) > 0) != (many <= impl.MaxPolicies) {
			t.Errorf("%d policies: %d things", many, len(got))
		}
		askResidual(t, list, r, policies, []string{"resource"})
		askSlicePolicies(t, list, r, policies)
	}
	broad := broadExpr(60)
	for i := range broad {
		if broad[i].Kind == impl.ExprLit {
			broad[i] = varExpr("resource")[0]
		}
	}
	policies, _ := countedPolicies(impl.MaxPolicies)
	for i := range policies {
		policies[i].When = broad
	}
	if left := impl.Residual(list, r, policies, []string{"resource"}); !slices.EqualFunc(left, policies, samePolicy) {
		t.Errorf("the greatest policies: %d left", len(left))
	}
}

// nothingLeft asks all functions of the chapter that take policies.
func nothingLeft(t *testing.T, list []impl.Thing, r impl.Request, policies []impl.Policy) {
	t.Helper()
	for _, unknown := range [][]string{nil, {"action", "context", "principal", "resource"}} {
		if got := impl.Residual(list, r, policies, unknown); len(got) != 0 || cap(got) != 0 {
			t.Errorf("Residual(%.200s, %.200s, %.200s, %q): got %.200s", shown(list), shown(r), shown(policies), unknown, shown(got))
		}
	}
	if got := impl.SlicePolicies(list, r, policies); len(got) != 0 || cap(got) != 0 {
		t.Errorf("SlicePolicies(%.200s, %.200s, %.200s): got %.200s", shown(list), shown(r), shown(policies), shown(got))
	}
	if got := impl.SliceThings(list, r, policies); len(got) != 0 || cap(got) != 0 {
		t.Errorf("SliceThings(%.200s, %.200s, %.200s): got %.200s", shown(list), shown(r), shown(policies), shown(got))
	}
}

func TestNothingIsLeftOfNoGoodOnes(t *testing.T) {
	list, r := deskThings(), deskRequest()
	fine := []impl.Policy{plainPolicy("b"), plainPolicy("m"), plainPolicy("x")}
	if len(impl.Residual(list, r, fine, nil)) != 3 || len(impl.SlicePolicies(list, r, fine)) != 3 || len(impl.SliceThings(list, r, fine)) != 8 {
		t.Fatalf("three that permit: not all are left")
	}
	for _, ids := range [][]string{{"b", "a"}, {"a", "a"}, {"a", "c", "b"}, {"b", "a", "c"}, {"a", "b", "b"}, {"a", "A"}, {"10", "1"}, {"b", "c", "d", "a"}} {
		var policies []impl.Policy
		for _, id := range ids {
			policies = append(policies, plainPolicy(id))
		}
		nothingLeft(t, list, r, policies)
	}
	for i, bad := range badPolicies() {
		// The Id alone stands where it rises.
		at := i % 4
		if bad.Id == "p" || bad.Id == "t" {
			bad.Id = []string{"a", "c", "n", "y"}[at]
		}
		nothingLeft(t, list, r, slices.Insert(slices.Clone(fine), at, bad))
		nothingLeft(t, list, r, []impl.Policy{bad})
	}
	for _, things := range badThingLists() {
		nothingLeft(t, things, r, fine)
	}
	for _, other := range badRequests() {
		nothingLeft(t, list, other, fine)
	}
	nothingLeft(t, nil, impl.Request{}, nil)
	nothingLeft(t, list, r, make([]impl.Policy, 3))
	nothingLeft(t, list, r, make([]impl.Policy, 100000))
}

func TestSlicePolicies(t *testing.T) {
	list, r := deskThings(), deskRequest()
	for _, c := range []struct {
		heads string
		want  bool
	}{
		{`(principal, action, resource)`, true},
		{`(principal == User::"ann", action == Action::"view", resource == Doc::"d")`, true},
		{`(principal == User::"bob", action == Action::"view", resource == Doc::"d")`, false},
		{`(principal == User::"ann", action == Action::"read", resource == Doc::"d")`, false},
		{`(principal == User::"ann", action == Action::"view", resource == Doc::"e")`, false},
		{`(principal in Group::"top", action in Action::"read", resource in Folder::"h")`, true},
		{`(principal in Group::"k", action in Action::"read", resource in Folder::"h")`, false},
		{`(principal in Group::"top", action in Action::"edit", resource in Folder::"h")`, false},
		{`(principal in Group::"top", action in Action::"read", resource in Folder::"i")`, false},
		{`(principal is User, action is Action, resource is Doc)`, true},
		{`(principal is Doc, action is Action, resource is Doc)`, false},
		{`(principal is User, action is User, resource is Doc)`, false},
		{`(principal is User, action is Action, resource is User)`, false},
		{`(principal == ?, action, resource)`, false},
		{`(principal in ?, action, resource)`, false},
		{`(principal, action, resource == ?)`, false},
		{`(principal, action, resource in ?)`, false},
	} {
		for _, when := range []string{"", " when true", " when false", " when 5", " when principal.hat", " when [2, 1]", " when principal is User && resource has a"} {
			for _, word := range []string{"permit", "forbid"} {
				policies := policiesOf(word + ` "p" ` + c.heads + when + ";\n")
				got := impl.SlicePolicies(list, r, policies)
				if c.want && !slices.EqualFunc(got, policies, samePolicy) || !c.want && len(got) > 0 {
					t.Errorf("%s: got %s", policiesText(policies), policiesText(got))
				}
				askSlicePolicies(t, list, r, policies)
			}
		}
	}
	for _, g := range goodPolicies() {
		askSlicePolicies(t, list, r, []impl.Policy{g.policy})
		askSlicePolicies(t, nil, plainRequest(), []impl.Policy{g.policy})
	}
}

// Those whose heads match decide as all do, and the others decide nothing.
func TestDrawnSlicesOfPolicies(t *testing.T) {
	d := deskDrawer{drawn()}
	list := deskThings()
	in, out, faulty := 0, 0, 0
	for range 3000 {
		r, policies := d.request(), d.drawnPolicies(d.from.Intn(9))
		slice := askSlicePolicies(t, list, r, policies)
		want := impl.Decide(list, r, policies)
		if got := impl.Decide(list, r, slice); !sameDecision(got, want) {
			t.Errorf("%s decide %s, their slice %s decides %s", policiesText(policies), shown(want), policiesText(slice), shown(got))
		}
		others := slices.DeleteFunc(slices.Clone(policies), func(p impl.Policy) bool {
			return slices.ContainsFunc(slice, func(own impl.Policy) bool { return own.Id == p.Id })
		})
		if got := impl.Decide(list, r, others); !sameDecision(got, impl.Decision{}) {
			t.Errorf("%s, whose heads do not match, decide %s", policiesText(others), shown(got))
		}
		in, out, faulty = in+len(slice), out+len(others), faulty+len(want.Faulty)
	}
	if in < 2000 || out < 2000 || faulty < 200 {
		t.Errorf("%d in, %d out, %d faulty", in, out, faulty)
	}
}

// hallCase is a hall by its rows, what is asked there, and what of it is reached.
type hallCase struct {
	rows    map[string]string
	context string
	whens   []string
	want    string
}

func hallCases() []hallCase {
	rows := func(pairs ...string) map[string]string {
		out := map[string]string{}
		for i := 0; i < len(pairs); i += 2 {
			out[pairs[i]] = pairs[i+1]
		}
		return out
	}
	return []hallCase{
		{nil, "", nil, "abc"},
		// Parents, from each of the three refs on.
		{rows("a", "^d"), "", nil, "abcd"},
		{rows("b", "^e"), "", nil, "abce"},
		{rows("c", "^f"), "", nil, "abcf"},
		{rows("a", "^d ^e ^f"), "", nil, "abcdef"},
		{rows("a", "^d", "d", "^e", "e", "^j"), "", nil, "abcdej"},
		{rows("a", "^j", "j", "^i", "i", "^h"), "", nil, "abchij"},
		// What is below, and what only others lead to.
		{rows("d", "^a", "e", "x=b"), "", nil, "abc"},
		{rows("e", "^f ^g", "f", "x=g"), "", nil, "abc"},
		// Fields, and sets in fields.
		{rows("a", "x=d"), "", nil, "abcd"},
		{rows("b", "x=d y=e"), "", nil, "abcde"},
		{rows("c", "x=[d,e,f]"), "", nil, "abcdef"},
		{rows("a", "w=[d] x=[e,j] y=f z=[g,h]"), "", nil, "abcdefghj"},
		{rows("a", "x=d", "d", "^e", "e", "x=[f,g]", "g", "y=h"), "", nil, "abcdefgh"},
		{rows("a", "^d", "d", "x=e", "e", "^f"), "", nil, "abcdef"},
		{rows("a", "^d x=e", "d", "x=f", "e", "x=g"), "", nil, "abcdefg"},
		// Loops.
		{rows("a", "^a"), "", nil, "abc"},
		{rows("a", "^d", "d", "^a"), "", nil, "abcd"},
		{rows("a", "x=d", "d", "x=e", "e", "x=a"), "", nil, "abcde"},
		{rows("a", "x=[a,d]", "d", "^d x=[a,d,e]", "e", "^a"), "", nil, "abcde"},
		{rows("d", "^e", "e", "^d"), "", nil, "abc"},
		// By way of what is not in the list nothing is reached.
		{rows("a", "^q x=r y=[s,t]"), "", nil, "abc"},
		{rows("a", "^d ^q", "d", "x=[e,r]"), "", nil, "abcde"},
		// The context.
		{nil, `x=T::"d"`, nil, "abcd"},
		{nil, `x=T::"d" y=T::"e" z=T::"q"`, nil, "abcde"},
		{nil, `x=[T::"d",T::"e",T::"j"]`, nil, "abcdej"},
		{nil, `w=[1,T::"d"] x=3 y="f" z=[T::"g",T::"q"]`, nil, "abcdg"},
		{rows("d", "^e", "e", "x=f"), `x=[T::"d"]`, nil, "abcdef"},
		{rows("d", "^e"), `x=U::"d"`, nil, "abc"},
		// Literals of a When.
		{nil, "", []string{`T::"d" == principal`}, "abcd"},
		{nil, "", []string{`principal == T::"d"`}, "abcd"},
		{nil, "", []string{`principal in [T::"d", T::"e", T::"f"]`}, "abcdef"},
		{nil, "", []string{`[T::"j", 5, T::"q", T::"d"] contains principal`}, "abcdj"},
		{nil, "", []string{`T::"d"`}, "abcd"},
		{nil, "", []string{`[T::"d"]`}, "abcd"},
		{nil, "", []string{`(T::"d").x.y has z`}, "abcd"},
		{nil, "", []string{`!(T::"d" has x) && -(T::"e").n < 5 || T::"f" is T`}, "abcdef"},
		{nil, "", []string{`if T::"d" has x then T::"e" else T::"f"`}, "abcdef"},
		{nil, "", []string{`false && T::"d" == principal`, `true || [T::"e"] contains 1`, `if true then 1 else T::"f"`}, "abcdef"},
		{nil, "", []string{`"d" == "T::d"`, `principal is d`, `principal.d has d`, `principal == U::"d"`, `principal like "T::*"`}, "abc"},
		{nil, "", []string{`1 == 1`, `true`, `T::"j" == T::"j"`}, "abcj"},
		{rows("d", "^e x=[f]", "f", "y=g"), "", []string{`T::"d" has x`}, "abcdefg"},
		{rows("q", "^d"), "", []string{`T::"q" has x`}, "abc"},
		{rows("a", "^d", "e", "^f", "g", "^h"), `x=T::"e"`, []string{`T::"g" has x`}, "abcdefgh"},
		{rows("a", "^b", "b", "^c", "c", "^d", "d", "x=e", "e", "x=f", "f", "x=[g]", "g", "y=[h,i]", "i", "^j"), "", nil, "abcdefghij"},
	}
}

func TestSliceThings(t *testing.T) {
	for _, c := range hallCases() {
		list, r := hallOf(c.rows), hallRequest()
		r.Names, r.Values = fieldsOf(c.context)
		var policies []impl.Policy
		for i, when := range c.whens {
			p := plainPolicy(fmt.Sprint("p", i))
			p.When = exprText(when)
			policies = append(policies, p)
		}
		if got := lettersOf(impl.SliceThings(list, r, policies)); got != c.want {
			t.Errorf("%v, context %s, %s: got %s, want %s", c.rows, c.context, policiesText(policies), got, c.want)
		}
		askSliceThings(t, list, r, policies)
		// Heads lead nowhere, and a When leads on whether the heads match or not.
		for i := range policies {
			policies[i].Principal, policies[i].Permit = refHead(impl.HeadSame, "T", "i"), false
			policies[i].Action, policies[i].Resource = refHead(impl.HeadIn, "T", "i"), isHead("i")
		}
		policies = append(policies, impl.Policy{Id: "q", Principal: refHead(impl.HeadIn, "T", "i"), Action: anyHead(), Resource: refHead(impl.HeadSame, "T", "i")})
		if got := lettersOf(impl.SliceThings(list, r, policies)); got != c.want {
			t.Errorf("%v, context %s, %s: got %s, want %s", c.rows, c.context, policiesText(policies), got, c.want)
		}
		askSliceThings(t, list, r, policies)
	}
}

// The desk as a whole: Self s alone is reached by nothing.
func TestSliceThingsAtTheDesk(t *testing.T) {
	list, r := deskThings(), deskRequest()
	all := slices.Delete(slices.Clone(list), 6, 7)
	if got := impl.SliceThings(list, r, nil); !slices.EqualFunc(got, all, sameThing) {
		t.Errorf("got %s", shown(got))
	}
	p := plainPolicy("p")
	p.Principal = refHead(impl.HeadSame, "Self", "s")
	if got := impl.SliceThings(list, r, []impl.Policy{p}); !slices.EqualFunc(got, all, sameThing) {
		t.Errorf("by a head: got %s", shown(got))
	}
	p.When = exprText(`Self::"s" in Self::"s"`)
	if got := impl.SliceThings(list, r, []impl.Policy{p}); !slices.EqualFunc(got, list, sameThing) {
		t.Errorf("by a When: got %s", shown(got))
	}
	r = requestOf(refAtom("Group", "k"), "edit", refAtom("Folder", "h"), "")
	if got := impl.SliceThings(list, r, nil); !slices.EqualFunc(got, list[5:6], sameThing) {
		t.Errorf("from Group k: got %s", shown(got))
	}
	if got := impl.SliceThings(nil, r, nil); len(got) != 0 {
		t.Errorf("among no things: got %s", shown(got))
	}
}

// What is reached by Parents alone is what is above, as far as it is there.
func TestSlicesOfAllSmallThings(t *testing.T) {
	refs := refsOf(`A::"b" B::"a" B::"c" C::"c" D::"d"`)
	round := 0
	allSmallThings(func(list []impl.Thing) {
		round++
		r := impl.Request{Principal: refs[round%5], Action: refs[round/5%5], Resource: refs[round/25%5]}
		got := askSliceThings(t, list, r, nil)
		above := slices.Concat(impl.Ancestors(list, r.Principal), impl.Ancestors(list, r.Action), impl.Ancestors(list, r.Resource))
		want := slices.DeleteFunc(slices.Clone(list), func(x impl.Thing) bool { return !slices.Contains(above, x.Ref) })
		if !slices.EqualFunc(got, want, sameThing) {
			t.Errorf("%s, by %s: got %s", shown(list), shown(r), shown(got))
		}
	})
	if round != 1+3*16+3*256+4096 {
		t.Errorf("%d lists", round)
	}
}

func TestSliceThingsAtItsLimits(t *testing.T) {
	for _, many := range []int{1, 2, 50, impl.MaxThings - 1, impl.MaxThings} {
		for _, falling := range []bool{false, true} {
			list := lineOfThings(many, falling)
			byFields := slices.Clone(list)
			for i, x := range byFields {
				byFields[i] = impl.Thing{Ref: x.Ref, Names: []string{"x"}, Values: []impl.Value{atomValue(x.Parents[0])}}
			}
			for at, x := range list {
				r := impl.Request{Principal: x.Ref, Action: x.Ref, Resource: x.Ref}
				want := list[at:]
				other := byFields[at:]
				if falling {
					want, other = list[:at+1], byFields[:at+1]
				}
				if got := impl.SliceThings(list, r, nil); !slices.EqualFunc(got, want, sameThing) {
					t.Errorf("%d things, falling %v, from %d on: got %d", many, falling, at, len(got))
				}
				if got := impl.SliceThings(byFields, r, nil); !slices.EqualFunc(got, other, sameThing) {
					t.Errorf("%d things by fields, falling %v, from %d on: got %d", many, falling, at, len(got))
				}
			}
		}
	}
	full := fullThings()
	r := impl.Request{Principal: full[99].Parents[0], Action: full[99].Parents[1], Resource: full[0].Ref}
	if got := impl.SliceThings(full, r, nil); !slices.EqualFunc(got, full, sameThing) {
		t.Errorf("the greatest things: got %d", len(got))
	}
	r.Resource = full[98].Ref
	if got := impl.SliceThings(full, r, nil); !slices.EqualFunc(got, full[98:], sameThing) {
		t.Errorf("the last two: got %d", len(got))
	}
	// All things by the context's sets, and by literals of as many policies as may be.
	list := countedThings(impl.MaxThings)
	refs := countedRefs(impl.MaxThings)
	r = impl.Request{Principal: refAtom("A", "a"), Action: refAtom("A", "a"), Resource: refAtom("A", "a"), Names: []string{"x", "y"}, Values: []impl.Value{setValue(refs[:50]...), setValue(refs[50:]...)}}
	if got := impl.SliceThings(list, r, nil); len(got) != impl.MaxThings {
		t.Errorf("by the context: got %d", len(got))
	}
	r.Names, r.Values = nil, nil
	policies, _ := countedPolicies(impl.MaxPolicies)
	for i := range policies {
		policies[i].When = exprOf(impl.ExprSame, "", setExpr(refs[i*2:i*2+2]...), litExpr(refs[80+i/2]))
	}
	if got := impl.SliceThings(list, r, policies); len(got) != impl.MaxThings {
		t.Errorf("by literals: got %d", len(got))
	}
	for _, list := range goodThingLists() {
		askSliceThings(t, list, plainRequest(), nil)
	}
	for _, r := range goodRequests() {
		askSliceThings(t, deskThings(), r, nil)
	}
}

// Drawn halls: policies decide in the things that are reached as in all, each When gives what it gave; with one thing less it may give another.
func TestDrawnSlicesOfThings(t *testing.T) {
	d := hallDrawer{drawn()}
	in, out, allowed, faulty, needed := 0, 0, 0, 0, 0
	for range 6000 {
		list, r, policies := d.things(), d.request(), d.policies(d.from.Intn(4))
		slice := askSliceThings(t, list, r, policies)
		want := impl.Decide(list, r, policies)
		if got := impl.Decide(slice, r, policies); !sameDecision(got, want) {
			t.Errorf("%s decide %s, in their slice %s: %s", policiesText(policies), shown(want), lettersOf(slice), shown(got))
		}
		less := slice
		if len(slice) > 0 {
			at := d.from.Intn(len(slice))
			less = slices.Delete(slices.Clone(slice), at, at+1)
		}
		for _, p := range policies {
			if len(p.When) == 0 {
				continue
			}
			own := evalText(list, r, p.When)
			if got := evalText(slice, r, p.When); got != own {
				t.Errorf("%s gives %s, in %s it gives %s", impl.ExprText(p.When), own, lettersOf(slice), got)
			}
			if evalText(less, r, p.When) != own {
				needed++
			}
		}
		if again := impl.SliceThings(slice, r, policies); !slices.EqualFunc(again, slice, sameThing) {
			t.Errorf("a slice of the slice: %s of %s", lettersOf(again), lettersOf(slice))
		}
		in, out, faulty = in+len(slice), out+len(list)-len(slice), faulty+len(want.Faulty)
		if want.Allow {
			allowed++
		}
	}
	if in < 5000 || out < 5000 || allowed < 300 || faulty < 500 || needed < 200 {
		t.Errorf("%d in, %d out, %d allowed, %d faulty, %d needed", in, out, allowed, faulty, needed)
	}
}

// All at once: what is left of the policies whose heads match, in the things that they reach, decides as all do.
func TestPartsTogether(t *testing.T) {
	d := deskDrawer{drawn()}
	list := deskThings()
	for range 1000 {
		r, unknown, policies := d.request(), d.unknown(), d.drawnPolicies(d.from.Intn(9))
		left := impl.Residual(list, r, policies, unknown)
		other := d.otherwise(r, unknown)
		want := impl.Decide(list, other, policies)
		some := impl.SlicePolicies(list, other, left)
		things := impl.SliceThings(list, other, some)
		if got := impl.Decide(things, other, some); !sameDecision(got, want) {
			t.Errorf("%s decide %s, a part of a part of them %s", policiesText(policies), shown(want), shown(got))
		}
	}
}
