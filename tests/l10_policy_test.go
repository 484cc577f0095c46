package tests

import (
	"fmt"
	"slices"
	"strings"
	"testing"

	"loop.example/g00036/impl"
)

// askExpr holds the three functions of expressions against the words, whatever the expression is, and says whether it is good.
func askExpr(t *testing.T, e []impl.Expr) bool {
	t.Helper()
	good, text := goodExprByWords(e), exprTextByWords(e)
	if got := impl.GoodExpr(e); got != good {
		t.Errorf("GoodExpr(%.300s): got %v", shown(e), got)
	}
	if got := impl.ExprText(e); got != text {
		t.Errorf("ExprText(%.300s): got %.300q, want %.300q", shown(e), got, text)
	}
	if !good {
		return false
	}
	got, ok := impl.ReadExpr(text)
	if want := len(text) <= 9000; ok != want || want && !slices.Equal(got, e) || !want && len(got) > 0 {
		t.Errorf("ReadExpr(%.300q): got %.300s, %v", text, shown(got), ok)
	}
	return true
}

// askExprText holds ReadExpr against the words, and against what it reads; it says whether the text is one.
func askExprText(t *testing.T, text string) bool {
	t.Helper()
	got, ok := impl.ReadExpr(text)
	want, wanted := readExprByWords(text)
	if ok != wanted || !slices.Equal(got, want) {
		t.Errorf("ReadExpr(%.300q): got %.300s, %v, want %v", text, shown(got), ok, wanted)
	}
	if ok && (!impl.GoodExpr(got) || impl.ExprText(got) != text) {
		t.Errorf("ReadExpr(%.300q): what is read is told as %.300q", text, impl.ExprText(got))
	}
	return ok
}

func TestExprsAreReadAsWhatTheyAre(t *testing.T) {
	for _, g := range goodExprs() {
		if got := impl.ExprText(g.expr); got != g.text {
			t.Errorf("ExprText(%.300s): got %.300q, want %.300q", shown(g.expr), got, g.text)
		}
		if got, ok := impl.ReadExpr(g.text); !ok || !slices.Equal(got, g.expr) {
			t.Errorf("ReadExpr(%.300q): got %.300s, %v", g.text, shown(got), ok)
		}
		if !askExpr(t, g.expr) || !askExprText(t, g.text) {
			t.Errorf("%.300q is not good", g.text)
		}
	}
}

func TestExprsThatAreNotGood(t *testing.T) {
	for _, e := range badExprs() {
		if askExpr(t, e) || impl.GoodExpr(e) || impl.ExprText(e) != "" {
			t.Errorf("%.300s is good", shown(e))
		}
	}
}

func TestTextsOfNoExpr(t *testing.T) {
	for _, text := range wrongExprTexts() {
		if e, ok := impl.ReadExpr(text); ok || len(e) > 0 || askExprText(t, text) {
			t.Errorf("ReadExpr(%.300q): got %.300s, %v", text, shown(e), ok)
		}
	}
}

func TestHowManyNodesThereMayBe(t *testing.T) {
	for nodes := 1; nodes <= 70; nodes++ {
		for _, e := range [][]impl.Expr{broadExpr(nodes), broadSets(max(nodes, 6))} {
			want := len(e) <= 60
			if len(e) < nodes || askExpr(t, e) != want || impl.GoodExpr(e) != want {
				t.Errorf("%d nodes: got %v", len(e), impl.GoodExpr(e))
			}
			if _, ok := impl.ReadExpr(rawExprText(e)); ok != want {
				t.Errorf("the text of %d nodes: got %v", len(e), ok)
			}
		}
	}
}

func TestHowManyMayStandWithinEachOther(t *testing.T) {
	for within := 2; within <= 19; within++ {
		for i, e := range deepExprs(within) {
			want := within <= 12
			if askExpr(t, e) != want || impl.GoodExpr(e) != want {
				t.Errorf("%d within each other, sort %d: got %v", within, i, impl.GoodExpr(e))
			}
			if _, ok := impl.ReadExpr(rawExprText(e)); ok != want {
				t.Errorf("the text of %d within each other, sort %d: got %v", within, i, ok)
			}
		}
	}
}

func TestKidsOfSets(t *testing.T) {
	for kids := range 14 {
		e := setExpr(slices.Repeat([]impl.Atom{numAtom(kids)}, kids)...)
		if got, want := impl.GoodExpr(e), kids <= 10; got != want || askExpr(t, e) != want {
			t.Errorf("a set of %d kids: got %v", kids, got)
		}
		if _, ok := impl.ReadExpr(rawExprText(e)); ok != (kids <= 10) {
			t.Errorf("the text of a set of %d kids: got %v", kids, ok)
		}
	}
}

// Each node of each good expression has each of its fields changed.
func TestEachFieldOfANodeCounts(t *testing.T) {
	changes := []func(n *impl.Expr, num int){
		func(n *impl.Expr, num int) { n.Kind = num },
		func(n *impl.Expr, num int) { n.Kids = num },
		func(n *impl.Expr, num int) { n.Kids += num },
		func(n *impl.Expr, num int) { n.Atom.Kind = num },
		func(n *impl.Expr, num int) { n.Atom.Num = num },
		func(n *impl.Expr, num int) { n.Atom = numAtom(num) },
		func(n *impl.Expr, num int) { n.Text = strings.Repeat("a", max(0, num)) },
		func(n *impl.Expr, num int) { n.Text = []string{"principal", "if", "*", "\\"}[max(num, 0)%4] },
	}
	for _, e := range kindSamples() {
		for at := range e {
			for _, change := range changes {
				for num := -1; num <= 31; num++ {
					own := slices.Clone(e)
					change(&own[at], num)
					askExpr(t, own)
				}
			}
		}
	}
}

func TestPatterns(t *testing.T) {
	for _, pattern := range append(textsOver("a*\\\"", 5), printedBytes(), strings.Repeat("~", impl.MaxText), strings.Repeat("\\*", impl.MaxText/2), strings.Repeat(" ", impl.MaxText)) {
		e := exprOf(impl.ExprLike, pattern, principalExpr())
		if want := goodPattern(pattern); impl.GoodExpr(e) != want {
			t.Errorf("the pattern %q: got %v", pattern, impl.GoodExpr(e))
		}
		askExpr(t, e)
	}
}

// Each kind of two sides, and each of one, with each level on each side: brackets stand where the document tells them, and a text that has others is not read as the same.
func TestEachLevelBesideEachOther(t *testing.T) {
	levels := levelSamples()
	// The least close level that each place takes without brackets.
	type place struct {
		least int
		ahead string
		back  string
		whole func(kid []impl.Expr) []impl.Expr
	}
	five := numExpr(5)
	var places []place
	for kind, sign := range pairKinds() {
		level := formsOfExprs[kind].level
		first := level
		if level == 4 {
			first = 5
		}
		places = append(places,
			place{first, "", " " + sign + " 5", func(kid []impl.Expr) []impl.Expr { return exprOf(kind, "", kid, five) }},
			place{level + 1, "5 " + sign + " ", "", func(kid []impl.Expr) []impl.Expr { return exprOf(kind, "", five, kid) }},
		)
	}
	places = append(places,
		place{5, "", " has a", func(kid []impl.Expr) []impl.Expr { return exprOf(impl.ExprHas, "a", kid) }},
		place{5, "", " is a", func(kid []impl.Expr) []impl.Expr { return exprOf(impl.ExprIs, "a", kid) }},
		place{5, "", " like \"a\"", func(kid []impl.Expr) []impl.Expr { return exprOf(impl.ExprLike, "a", kid) }},
		place{7, "!", "", notExpr},
		place{1, "if ", " then 5 else 5", func(kid []impl.Expr) []impl.Expr { return ifExpr(kid, five, five) }},
		place{1, "if 5 then ", " else 5", func(kid []impl.Expr) []impl.Expr { return ifExpr(five, kid, five) }},
		place{1, "if 5 then 5 else ", "", func(kid []impl.Expr) []impl.Expr { return ifExpr(five, five, kid) }},
	)
	for _, p := range places {
		for level := 1; level <= 9; level++ {
			for _, kid := range levels[level] {
				bare, held := p.ahead+kid.text+p.back, p.ahead+"("+kid.text+")"+p.back
				want, other := bare, held
				if level < p.least {
					want, other = held, bare
				}
				e := p.whole(kid.expr)
				if got := impl.ExprText(e); got != want {
					t.Errorf("%s in place of level %d: got %q, want %q", kid.text, p.least, got, want)
				}
				if got, ok := impl.ReadExpr(want); !ok || !slices.Equal(got, e) {
					t.Errorf("ReadExpr(%q): got %s, %v", want, shown(got), ok)
				}
				if got, ok := impl.ReadExpr(other); ok && slices.Equal(got, e) || level >= p.least && ok {
					t.Errorf("ReadExpr(%q): got %s, %v", other, shown(got), ok)
				}
				askExprText(t, other)
				askExprText(t, p.ahead+"(("+kid.text+"))"+p.back)
				askExprText(t, p.ahead+"("+kid.text+p.back)
				askExprText(t, p.ahead+kid.text+")"+p.back)
				askExprText(t, p.ahead+" "+kid.text+p.back)
				askExprText(t, p.ahead+kid.text+" "+p.back)
			}
		}
	}
}

func TestMinusAheadOfEachKind(t *testing.T) {
	for level, kids := range levelSamples() {
		for _, kid := range kids {
			want := "-" + kid.text
			if level < 7 || kid.expr[0].Kind == impl.ExprLit {
				want = "-(" + kid.text + ")"
			}
			if got := impl.ExprText(negExpr(kid.expr)); got != want {
				t.Errorf("ExprText of - ahead of %s: got %q, want %q", kid.text, got, want)
			}
			if got, ok := impl.ReadExpr(want); !ok || !slices.Equal(got, negExpr(kid.expr)) {
				t.Errorf("ReadExpr(%q): got %s, %v", want, shown(got), ok)
			}
			for _, text := range []string{"-" + kid.text, "-(" + kid.text + ")", "--" + kid.text, "- " + kid.text, "-(-" + kid.text + ")", "-((" + kid.text + "))"} {
				if text != want && askExprText(t, text) {
					if got, _ := impl.ReadExpr(text); slices.Equal(got, negExpr(kid.expr)) {
						t.Errorf("ReadExpr(%q) is the same as of %q", text, want)
					}
				}
			}
		}
	}
}

func TestPointBehindEachKind(t *testing.T) {
	for _, kids := range levelSamples() {
		for _, kid := range kids {
			want := "(" + kid.text + ").a"
			if kid.expr[0].Kind == impl.ExprVar || kid.expr[0].Kind == impl.ExprGet {
				want = kid.text + ".a"
			}
			if got := impl.ExprText(getExpr(kid.expr, "a")); got != want {
				t.Errorf("ExprText of %s and a point: got %q, want %q", kid.text, got, want)
			}
			if got, ok := impl.ReadExpr(want); !ok || !slices.Equal(got, getExpr(kid.expr, "a")) {
				t.Errorf("ReadExpr(%q): got %s, %v", want, shown(got), ok)
			}
			for _, text := range []string{kid.text + ".a", "(" + kid.text + ").a", "((" + kid.text + ").a)", "((" + kid.text + ")).a", "(" + kid.text + ").a.b", kid.text + ".", kid.text + " .a"} {
				if text != want && askExprText(t, text) {
					if got, _ := impl.ReadExpr(text); slices.Equal(got, getExpr(kid.expr, "a")) {
						t.Errorf("ReadExpr(%q) is the same as of %q", text, want)
					}
				}
			}
		}
	}
}

// All expressions of few nodes; no two of them have one text.
func TestAllSmallExprs(t *testing.T) {
	pairs := smallNodes()[2]
	texts := map[string]int{}
	for nodes := 1; nodes <= 5; nodes++ {
		for _, e := range smallExprs(nodes, pairs) {
			if len(e) != nodes || !askExpr(t, e) {
				t.Fatalf("%s: want a good expression of %d nodes", shown(e), nodes)
			}
			texts[impl.ExprText(e)]++
		}
	}
	for text, many := range texts {
		if many > 1 {
			t.Errorf("%d expressions have the text %q", many, text)
		}
	}
	if len(texts) < 60000 {
		t.Errorf("%d texts alone", len(texts))
	}
}

// All texts of few pieces.
func TestAllTextsOfFewPieces(t *testing.T) {
	pieces := []string{"1", "-", "!", "principal", ".a", "(", ")", "[", "]", ", ", " - ", " == ", " || ", " has a", "if ", " then ", " else ", "(1 + 1)"}
	read := 0
	texts := []string{""}
	for range 4 {
		var longer []string
		for _, text := range texts {
			for _, piece := range pieces {
				longer = append(longer, text+piece)
			}
		}
		for _, text := range longer {
			if askExprText(t, text) {
				read++
			}
		}
		texts = longer
	}
	if read < 300 {
		t.Errorf("%d texts alone were read", read)
	}
}

func TestDrawnTextsOfPieces(t *testing.T) {
	pieces := []string{"1", "-1", "-", "!", "principal", "context", "User::\"a\"", "\" || \"", ".a", "(", ")", "(", ")", "[1, 2]", "[]", " - ", " + ", " * ", " == ", " < ", " <= ", " in ", " contains ", " within ", " || ", " && ", " has a", " is if", " like \"*\"", "if ", " then ", " else "}
	from := drawn()
	read := 0
	for range 100000 {
		text := ""
		operand := true
		for range 1 + from.Intn(9) {
			piece := oneOf(from, pieces)
			// Most often what may come there, so that some are right.
			for range 3 {
				begins := !strings.HasPrefix(piece, " ") && piece != ")" && piece != ".a"
				if begins == operand {
					break
				}
				piece = oneOf(from, pieces)
			}
			text += piece
			operand = strings.HasSuffix(piece, " ") || piece == "-" || piece == "!" || piece == "("
		}
		if askExprText(t, text) {
			read++
		}
	}
	if read < 3000 {
		t.Errorf("%d texts alone were read", read)
	}
}

func TestDrawnExprs(t *testing.T) {
	from, atoms := drawn(), goodAtoms()
	good := 0
	for range 20000 {
		if e := drawnExpr(from, atoms, 2+from.Intn(8)); len(e) <= 70 && askExpr(t, e) {
			good++
			// One node goes, or comes twice, or another comes in its place.
			at := from.Intn(len(e))
			askExpr(t, slices.Delete(slices.Clone(e), at, at+1))
			askExpr(t, slices.Insert(slices.Clone(e), at, e[at]))
			other := slices.Clone(e)
			other[at] = oneOf(from, e)
			askExpr(t, other)
		}
	}
	if good < 10000 {
		t.Errorf("%d of the expressions alone are good", good)
	}
}

// Texts that are one byte away from those of good expressions.
func TestNoExprIsReadThatIsNotTold(t *testing.T) {
	for i, g := range goodExprs() {
		if len(g.text) > 60 {
			continue
		}
		bytes := "() -!.[],\"\\a1if\n\x80"
		if i%4 > 0 {
			bytes = "() -"
		}
		changed(g.text, bytes, func(text string) { askExprText(t, text) })
	}
}

// Brackets come around each part of a text that begins and ends where they might, and go where they are.
func TestBracketsThatComeAndGo(t *testing.T) {
	for _, e := range append(smallExprs(3, smallNodes()[2]), smallExprs(4, smallNodes()[2][:4])...) {
		text := impl.ExprText(e)
		for i := range text {
			for j := i + 1; j <= len(text); j++ {
				if text[i] != ' ' && text[j-1] != ' ' && (i == 0 || strings.Contains(" (-!", text[i-1:i])) && (j == len(text) || strings.Contains(" ).", text[j:j+1])) {
					askExprText(t, text[:i]+"("+text[i:j]+")"+text[j:])
				}
				if text[i] == '(' && text[j-1] == ')' {
					askExprText(t, text[:i]+text[i+1:j-1]+text[j:])
				}
			}
		}
	}
}

func TestWordsThatBeginAsOthersDo(t *testing.T) {
	words := []string{"principal", "action", "resource", "context", "true", "false", "if", "then", "else", "in", "is", "has", "like", "contains", "within", "permit", "when"}
	for _, word := range words {
		value := requestWord.MatchString(word) || word == "true" || word == "false"
		for _, own := range []string{word, word + "x", word + "_", word + "1", word[:len(word)-1], "x" + word, strings.ToUpper(word[:1]) + word[1:]} {
			if got := askExprText(t, own); got != (value && own == word) {
				t.Errorf("ReadExpr(%q): got %v", own, got)
			}
			// As a name, or as a Type, each word is as good as another.
			for _, text := range []string{"principal." + own, "principal." + own + "." + own, "principal has " + own, "principal is " + own, own + "::\"a\"", own + "::\"a\" == " + own + "::\"b\"", "!(principal has " + own + ")", "if " + own + "::\"a\" then " + own + "::\"a\" else " + own + "::\"a\"", "if principal has " + own + " then principal is " + own + " else principal." + own} {
				if !askExprText(t, text) {
					t.Errorf("ReadExpr(%q): got none", text)
				}
			}
			for _, text := range []string{own + " == 1", "1 == " + own, own + ".a", "!" + own, "-" + own, "[" + own + "]", own + " has a", "if " + own + " then " + own + " else " + own, own + " " + own, own + "principal", "principal " + own, "principal " + own + " principal", "principal" + own} {
				askExprText(t, text)
			}
		}
	}
}

func TestHowLongATextMayBe(t *testing.T) {
	for _, length := range []int{2, 3, 400, 402, 405, 8990, 8999, 9000, 9001, 9002, 9500, 13000, 20001} {
		e := exprOfLength(length)
		text := impl.ExprText(e)
		if len(text) != length || !askExpr(t, e) {
			t.Errorf("want a text of %d bytes, got %d", length, len(text))
		}
		got, ok := impl.ReadExpr(text)
		if want := length <= 9000; ok != want || want && !slices.Equal(got, e) || !want && len(got) > 0 {
			t.Errorf("ReadExpr of %d bytes: got %v", length, ok)
		}
	}
}

func TestPoliciesAreReadAsWhatTheyAre(t *testing.T) {
	for _, g := range goodPolicies() {
		if !impl.GoodPolicy(g.policy) || !goodPolicyByWords(g.policy) {
			t.Errorf("GoodPolicy of %.300q: got %v", g.text, impl.GoodPolicy(g.policy))
		}
		if got := impl.PolicyText(g.policy); got != g.text || policyTextByWords(g.policy) != g.text {
			t.Errorf("PolicyText: got %.300q, want %.300q", got, g.text)
		}
		res := impl.ReadPolicies(g.text + "\n")
		if want := (impl.PolicyRes{Policies: []impl.Policy{g.policy}}); !samePolicyRes(res, want) || !samePolicyRes(readPoliciesByWords(g.text+"\n"), want) {
			t.Errorf("ReadPolicies(%.300q): got %.300s", g.text, shown(res))
		}
	}
}

func TestPoliciesThatAreNotGood(t *testing.T) {
	for _, p := range badPolicies() {
		if goodPolicyByWords(p) || impl.GoodPolicy(p) || impl.PolicyText(p) != "" {
			t.Errorf("%.300s: got %v, %.300q", shown(p), impl.GoodPolicy(p), impl.PolicyText(p))
		}
	}
}

// Each field of a policy beside each other one.
func TestPoliciesByTheirWords(t *testing.T) {
	heads, _ := toldHeads()
	some := append(heads, badHeads()[:60]...)
	whens := [][]impl.Expr{nil, {}, numExpr(1), {{}}, deepExprs(12)[0], deepExprs(13)[0]}
	for i, first := range some {
		for j, second := range some {
			for k, e := range whens {
				for _, id := range []string{"p", "", longId("a"), longId("a") + "a"} {
					p := impl.Policy{Id: id, Permit: (i+j+k)%2 == 0, Principal: first, Action: second, Resource: some[(i+j)%len(some)], When: e}
					if got, want := impl.GoodPolicy(p), goodPolicyByWords(p); got != want {
						t.Errorf("GoodPolicy(%.300s): got %v", shown(p), got)
					}
					if got, want := impl.PolicyText(p), policyTextByWords(p); got != want {
						t.Errorf("PolicyText(%.300s): got %.300q", shown(p), got)
					}
				}
			}
		}
	}
}

func TestIdsOfPolicies(t *testing.T) {
	for c := range 256 {
		for _, id := range []string{string([]byte{byte(c)}), "a" + string([]byte{byte(c)}), string([]byte{byte(c)}) + "a"} {
			want := 'a' <= c && c <= 'z' || 'A' <= c && c <= 'Z' || '0' <= c && c <= '9' || c == '_' || c == '-' || c == '.'
			if got := impl.GoodPolicy(plainPolicy(id)); got != want {
				t.Errorf("the Id %q: got %v", id, got)
			}
			if _, ok := impl.LinkPolicy(template(), id, refAtom("A", "a"), refAtom("A", "a")); ok != want {
				t.Errorf("the Id %q to be linked by: got %v", id, ok)
			}
			line := "permit \"" + id + "\" (principal, action, resource);\n"
			if got := impl.ReadPolicies(line); (got.Err == 0) != want || !samePolicyRes(got, readPoliciesByWords(line)) {
				t.Errorf("ReadPolicies(%q): got %s", line, shown(got))
			}
		}
	}
	for length := range 60 {
		id := strings.Repeat("a", length)
		want := 1 <= length && length <= 40
		_, linked := impl.LinkPolicy(template(), id, refAtom("A", "a"), refAtom("A", "a"))
		if got := impl.GoodPolicy(plainPolicy(id)); got != want || linked != want {
			t.Errorf("an Id of %d bytes: got %v, %v", length, got, linked)
		}
	}
}

func TestLinesOfNoPolicy(t *testing.T) {
	for _, line := range wrongPolicyLines() {
		for ahead := range 3 {
			_, lines := countedPolicies(ahead)
			text := strings.Join(lines, "") + line + "\n"
			if ahead > 0 {
				text += "permit"
			}
			want := impl.PolicyRes{Err: 2, Line: ahead + 1}
			if got := impl.ReadPolicies(text); !samePolicyRes(got, want) || !samePolicyRes(readPoliciesByWords(text), want) {
				t.Errorf("ReadPolicies(%.300q): got %.300s", text, shown(got))
			}
		}
	}
}

// Texts that are one byte away from those of good policies.
func TestNoPolicyIsReadThatIsNotTold(t *testing.T) {
	lines := []string{
		"permit \"a\" (principal, action, resource);\n",
		"forbid \"b\" (principal == A::\"b\", action is A, resource in ?) when true;\n",
		"permit \"c\" (principal is A, action in A::\"\\\"\", resource == ?) when -(1) < 2;\n",
	}
	read := 0
	for _, text := range append(lines, strings.Join(lines, ""), lines[1]+lines[1], lines[0]+lines[0]) {
		changed(text, " ,;:()?\"\\abpA=1\n\x80", func(text string) {
			got := impl.ReadPolicies(text)
			if !samePolicyRes(got, readPoliciesByWords(text)) {
				t.Errorf("ReadPolicies(%q): got %s", text, shown(got))
			}
			if got.Err > 0 {
				return
			}
			read++
			told := ""
			for _, p := range got.Policies {
				told += impl.PolicyText(p) + "\n"
			}
			if told != text {
				t.Errorf("ReadPolicies(%q): what is read is told as %q", text, told)
			}
		})
	}
	if read < 50 {
		t.Errorf("%d texts alone were read", read)
	}
}

// policiesCase is a text, and the Err and Line that are told of it.
type policiesCase struct {
	what string
	text string
	err  int
	line int
}

func TestReadPolicies(t *testing.T) {
	_, lines := countedPolicies(60)
	all := func(list ...string) string { return strings.Join(list, "") }
	many := func(count int) string { return all(lines[:count]...) }
	long := func(length int) string {
		p := plainPolicy("w")
		p.When = exprOfLength(length)
		return impl.PolicyText(p) + "\n"
	}
	_, full := fullPolicies(impl.MaxPolicyText)
	_, over := fullPolicies(impl.MaxPolicyText + 1)
	for _, c := range []policiesCase{
		{"no text", "", 0, 0},
		{"an empty line", "\n", 2, 1},
		{"an empty line first", "\n" + many(1), 2, 1},
		{"an empty line behind one", many(1) + "\n", 2, 2},
		{"an empty line between", lines[0] + "\n" + lines[1], 2, 2},
		{"a line that is not ended", strings.TrimSuffix(lines[0], "\n"), 2, 1},
		{"a last line that is not ended", strings.TrimSuffix(many(3), "\n"), 2, 3},
		{"a last line that is not ended, of a blank", many(3) + " ", 2, 4},
		{"a line that is not ended behind the most lines", many(40) + "permit", 2, 41},
		{"a good line that is not ended behind the most lines", strings.TrimSuffix(many(41), "\n"), 2, 41},
		{"the most lines", many(40), 0, 0},
		{"a line more", many(41), 3, 0},
		{"many lines more", many(60), 3, 0},
		{"a line more, and a wrong one behind it", many(41) + ";\n", 2, 42},
		{"a line more, and a wrong one ahead of it", ";\n" + many(41), 2, 1},
		{"Ids that are the same", all(lines[0], lines[1], lines[1]), 3, 0},
		{"Ids that are the same, not side by side", all(lines[0], lines[1], lines[0]), 3, 0},
		{"Ids that fall", all(lines[1], lines[0]), 3, 0},
		{"Ids that fall last", all(lines[1], lines[2], lines[0]), 3, 0},
		{"Ids that fall, and a wrong line behind them", all(lines[1], lines[0], "x\n"), 2, 3},
		{"Ids that fall, and a line that is not ended", all(lines[1], lines[0], lines[2][:20]), 2, 3},
		{"two wrong lines", all(lines[0], "x\n", "y\n"), 2, 2},
		{"Ids that rise by bytes", "permit \"-\" (principal, action, resource);\npermit \"B\" (principal, action, resource);\npermit \"a\" (principal, action, resource);\npermit \"aa\" (principal, action, resource);\n", 0, 0},
		{"Ids that rise as numbers alone", "permit \"9\" (principal, action, resource);\npermit \"10\" (principal, action, resource);\n", 3, 0},
		{"Ids that are one but for capitals", "permit \"a\" (principal, action, resource);\npermit \"A\" (principal, action, resource);\n", 3, 0},
		{"Ids of which one begins the other", "permit \"aa\" (principal, action, resource);\npermit \"a\" (principal, action, resource);\n", 3, 0},
		{"the most bytes", full, 0, 0},
		{"a byte more", over, 1, 0},
		{"a byte more, which is no line", full + "\n", 1, 0},
		{"the most bytes, the last not ended", full[:len(full)-1] + ";", 2, 40},
		{"too many bytes, and wrong lines", strings.Repeat("\n", impl.MaxPolicyText+1), 1, 0},
		{"the most bytes, and all lines wrong", strings.Repeat("\n", impl.MaxPolicyText), 2, 1},
		{"too many bytes, lines and Ids that fall", strings.Repeat(many(60), 10), 1, 0},
		{"a When of 9000 bytes", many(2) + long(9000), 0, 0},
		{"a When of a byte more", many(2) + long(9001), 2, 3},
		{"a When of a byte more, and Ids that fall", lines[1] + lines[0] + long(9001), 2, 3},
		{"a When of a byte more, and a wrong line", many(1) + "x\n" + long(9001), 2, 2},
		{"a When of many more", long(19000), 2, 1},
		{"a When of more than all may have", long(20000), 1, 0},
		{"lines ended by another byte", strings.ReplaceAll(many(2), "\n", "\r\n"), 2, 1},
		{"lines with nothing between", strings.ReplaceAll(many(2), "\n", ""), 2, 1},
	} {
		got := impl.ReadPolicies(c.text)
		if got.Err != c.err || got.Line != c.line || !samePolicyRes(got, readPoliciesByWords(c.text)) {
			t.Errorf("%s: got Err %d, Line %d", c.what, got.Err, got.Line)
		}
		if c.err > 0 && len(got.Policies) > 0 {
			t.Errorf("%s: got %d policies", c.what, len(got.Policies))
		}
		told := ""
		for _, p := range got.Policies {
			told += impl.PolicyText(p) + "\n"
		}
		if c.err == 0 && told != c.text {
			t.Errorf("%s: what is read is told as %.300q", c.what, told)
		}
	}
}

// A line stands at each place among others, as many as there may be.
func TestLineThatIsTold(t *testing.T) {
	_, lines := countedPolicies(impl.MaxPolicies)
	for at := range lines {
		for _, wrong := range []string{"\n", "permit\n", lines[at][1:], strings.Replace(lines[at], ";", "", 1)} {
			own := slices.Clone(lines)
			own[at] = wrong
			if got := impl.ReadPolicies(strings.Join(own, "")); got.Err != 2 || got.Line != at+1 || len(got.Policies) > 0 {
				t.Errorf("line %d is %q: got Err %d, Line %d", at+1, wrong, got.Err, got.Line)
			}
		}
		if at > 0 {
			own := slices.Clone(lines)
			own[at-1], own[at] = own[at], own[at-1]
			if got := impl.ReadPolicies(strings.Join(own, "")); got.Err != 3 || got.Line != 0 {
				t.Errorf("lines %d and %d in each other's place: got Err %d, Line %d", at, at+1, got.Err, got.Line)
			}
			own = slices.Clone(lines)
			own[at] = own[at-1]
			if got := impl.ReadPolicies(strings.Join(own, "")); got.Err != 3 || got.Line != 0 {
				t.Errorf("line %d is the one ahead of it: got Err %d, Line %d", at+1, got.Err, got.Line)
			}
		}
	}
}

func TestPoliciesBeyondWhatIsReadAreTold(t *testing.T) {
	p := plainPolicy("w")
	for _, length := range []int{9001, 20000, 20001, 20100} {
		p.When = exprOfLength(length)
		want := "permit \"w\" (principal, action, resource) when " + impl.ExprText(p.When) + ";"
		if got := impl.PolicyText(p); !impl.GoodPolicy(p) || got != want || len(got) < length {
			t.Errorf("a When of %d bytes: got %d bytes", length, len(got))
		}
	}
}

func TestLinkPolicy(t *testing.T) {
	ann, doc := refAtom("User", "ann"), refAtom("Doc", "d")
	for _, c := range []struct {
		line string
		want string
	}{
		{"permit \"t\" (principal == ?, action, resource);", "permit \"l\" (principal == User::\"ann\", action, resource);"},
		{"permit \"t\" (principal in ?, action, resource);", "permit \"l\" (principal in User::\"ann\", action, resource);"},
		{"permit \"t\" (principal, action, resource == ?);", "permit \"l\" (principal, action, resource == Doc::\"d\");"},
		{"permit \"t\" (principal, action, resource in ?);", "permit \"l\" (principal, action, resource in Doc::\"d\");"},
		{"forbid \"t\" (principal == ?, action == Action::\"a\", resource == ?) when principal == resource;", "forbid \"l\" (principal == User::\"ann\", action == Action::\"a\", resource == Doc::\"d\") when principal == resource;"},
		{"permit \"t\" (principal == ?, action, resource in ?);", "permit \"l\" (principal == User::\"ann\", action, resource in Doc::\"d\");"},
		{"permit \"t\" (principal in ?, action in Action::\"a\", resource == ?);", "permit \"l\" (principal in User::\"ann\", action in Action::\"a\", resource == Doc::\"d\");"},
		{"permit \"t\" (principal in ?, action is Action, resource in ?);", "permit \"l\" (principal in User::\"ann\", action is Action, resource in Doc::\"d\");"},
		{"forbid \"l\" (principal is User, action, resource in ?);", "forbid \"l\" (principal is User, action, resource in Doc::\"d\");"},
		{"permit \"t\" (principal == User::\"bob\", action, resource in ?);", "permit \"l\" (principal == User::\"bob\", action, resource in Doc::\"d\");"},
		{"permit \"t\" (principal == ?, action, resource in Doc::\"e\");", "permit \"l\" (principal == User::\"ann\", action, resource in Doc::\"e\");"},
		{"permit \"t\" (principal, action, resource);", ""},
		{"permit \"t\" (principal == User::\"ann\", action, resource == Doc::\"d\");", ""},
		{"permit \"t\" (principal is User, action is Action, resource is Doc) when true;", ""},
	} {
		p := impl.ReadPolicies(c.line + "\n").Policies[0]
		got, ok := impl.LinkPolicy(p, "l", ann, doc)
		if impl.PolicyText(got) != c.want || ok != (c.want != "") || !ok && !samePolicy(got, impl.Policy{}) {
			t.Errorf("LinkPolicy of %s: got %s, %v", c.line, impl.PolicyText(got), ok)
		}
	}
}

// askLink holds LinkPolicy against the words; what is linked is as before but for its Id and slots.
func askLink(t *testing.T, p impl.Policy, id string, principal impl.Atom, resource impl.Atom) bool {
	t.Helper()
	got, ok := impl.LinkPolicy(p, id, principal, resource)
	want, wanted := linkByWords(p, id, principal, resource)
	if ok != wanted || !samePolicy(got, want) {
		t.Errorf("LinkPolicy(%.300s, %q, %.100s, %.100s): got %.300s, %v", shown(p), id, shown(principal), shown(resource), shown(got), ok)
	}
	if !ok {
		return false
	}
	if !impl.GoodPolicy(got) || got.Id != id || got.Permit != p.Permit || got.Action != p.Action || !slices.Equal(got.When, p.When) {
		t.Errorf("LinkPolicy(%.300s): got %.300s", shown(p), shown(got))
	}
	if _, again := impl.LinkPolicy(got, id, principal, resource); again {
		t.Errorf("LinkPolicy(%.300s): what is linked has a slot", shown(p))
	}
	return true
}

func TestLinkPolicyByItsWords(t *testing.T) {
	ann, doc := refAtom("User", "ann"), refAtom("Doc", "d")
	linked := 0
	for _, g := range goodPolicies() {
		slot := g.policy.Principal.Kind > impl.HeadIs || g.policy.Resource.Kind > impl.HeadIs
		if got := askLink(t, g.policy, "l", ann, doc); got != slot {
			t.Errorf("LinkPolicy of %.300q: got %v", g.text, got)
		} else if got {
			linked++
		}
	}
	if linked < 100 {
		t.Errorf("%d policies alone were linked", linked)
	}
	for _, p := range badPolicies() {
		if askLink(t, p, "l", ann, doc) {
			t.Errorf("LinkPolicy(%.300s): got true", shown(p))
		}
	}
	one, other := template(), template()
	one.Principal, other.Resource = anyHead(), isHead("A")
	for _, p := range []impl.Policy{template(), one, other} {
		for _, id := range append(badIds(), "t", "l", longId("l")) {
			if got := askLink(t, p, id, ann, doc); got != policyId.MatchString(id) {
				t.Errorf("LinkPolicy by the Id %.100q: got %v", id, got)
			}
		}
		for _, a := range oddAtoms() {
			want := impl.GoodAtom(a) && a.Kind == impl.RefAtom
			if askLink(t, p, "l", a, doc) != want || askLink(t, p, "l", ann, a) != want || askLink(t, p, "l", a, a) != want {
				t.Errorf("LinkPolicy with %.100s: want %v", shown(a), want)
			}
		}
	}
}

// What is linked is just what a text says that has the atom in place of the `?`.
func TestLinkedIsReadWithTheAtomInPlace(t *testing.T) {
	atoms := []impl.Atom{refAtom("User", "ann"), refAtom("T", "?"), refAtom("principal", " == ?, "), refAtom(longName("z"), strings.Repeat("\\", impl.MaxText))}
	for _, first := range []string{"", " == ?", " in ?", " is A"} {
		for _, second := range []string{"", " == ?", " in ?", " in B::\"b\""} {
			for _, a := range atoms {
				for _, b := range atoms {
					form := "forbid \"%s\" (principal%s, action, resource%s) when principal has a;\n"
					p := impl.ReadPolicies(fmt.Sprintf(form, "t", first, second)).Policies[0]
					got, ok := impl.LinkPolicy(p, "l-1", a, b)
					want := impl.ReadPolicies(fmt.Sprintf(form, "l-1", strings.Replace(first, "?", impl.AtomText(a), 1), strings.Replace(second, "?", impl.AtomText(b), 1))).Policies
					if slots := strings.Contains(first+second, "?"); ok != slots || slots && !samePolicy(got, want[0]) {
						t.Errorf("LinkPolicy of %s: got %s, %v", impl.PolicyText(p), impl.PolicyText(got), ok)
					}
				}
			}
		}
	}
}
