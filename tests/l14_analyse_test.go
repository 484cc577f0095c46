package tests

import (
	"fmt"
	"math"
	"slices"
	"strings"
	"testing"

	"loop.example/g00036/impl"
)

func askFragment(t *testing.T, p impl.Policy) bool {
	t.Helper()
	want := inFragmentByWords(p)
	if got := impl.InFragment(p); got != want {
		t.Errorf("InFragment(%.500s): got %v, want %v", shown(p), got, want)
	}
	return want
}

func askCase(t *testing.T, s impl.PolSchema, policies []impl.Policy, number int, want wordCase) {
	t.Helper()
	list, r := impl.CaseOf(s, policies, number)
	if !slices.EqualFunc(list, want.things, sameThing) || !sameRequest(r, want.request) || len(list) == 0 && cap(list) != 0 {
		t.Errorf("CaseOf(%.500s, %.500s, %d): got %.500s, want %.500s", shown(s), policiesText(policies), number, wordCase{list, r}.text(), want.text())
	}
}

// askAllCases holds CasesOf and CaseOf against the words: of many cases it asks for some.
func askAllCases(t *testing.T, s impl.PolSchema, policies []impl.Policy) []wordCase {
	t.Helper()
	cases, many := casesByWords(s, policies)
	if got := impl.CasesOf(s, policies); got != many {
		t.Errorf("CasesOf(%.500s, %.500s): got %d, want %d", shown(s), policiesText(policies), got, many)
	}
	for number := 0; number < len(cases); number += 1 + len(cases)/100 {
		askCase(t, s, policies, number, cases[number])
	}
	if len(cases) > 0 {
		askCase(t, s, policies, len(cases)-1, cases[len(cases)-1])
	}
	for _, number := range []int{-1, len(cases), len(cases) + 1, math.MinInt, math.MaxInt} {
		askCase(t, s, policies, number, wordCase{})
	}
	return cases
}

// toldVerdicts are what the three functions that tell one tell.
type toldVerdicts struct {
	equivalent impl.Verdict
	never      impl.Verdict
	noMore     impl.Verdict
}

func verdictsOf(s impl.PolSchema, a []impl.Policy, b []impl.Policy) toldVerdicts {
	return toldVerdicts{impl.Equivalent(s, a, b), impl.NeverAllows(s, a), impl.AllowsNoMore(s, a, b)}
}

func verdictsByWords(s impl.PolSchema, a []impl.Policy, b []impl.Policy) toldVerdicts {
	return toldVerdicts{
		verdictByWords(s, a, b, func(byA bool, byB bool) bool { return byA != byB }),
		verdictByWords(s, a, nil, func(byA bool, byB bool) bool { return byA }),
		verdictByWords(s, a, b, func(byA bool, byB bool) bool { return byA && !byB }),
	}
}

// askVerdicts holds all three against the words.
func askVerdicts(t *testing.T, s impl.PolSchema, a []impl.Policy, b []impl.Policy) toldVerdicts {
	t.Helper()
	got, want := verdictsOf(s, a, b), verdictsByWords(s, a, b)
	for name, own := range map[string][2]impl.Verdict{"Equivalent": {got.equivalent, want.equivalent}, "NeverAllows": {got.never, want.never}, "AllowsNoMore": {got.noMore, want.noMore}} {
		if !sameVerdict(own[0], own[1]) {
			t.Errorf("%s(%.500s, %.500s, %.500s): got %.500s, want %.500s", name, shown(s), policiesText(a), policiesText(b), shown(own[0]), shown(own[1]))
		}
	}
	return want
}

func TestInFragment(t *testing.T) {
	ask := func(e []impl.Expr, want bool) {
		t.Helper()
		p := plainPolicy("p")
		p.When = e
		if got := impl.InFragment(p); got != want {
			t.Errorf("%s: got %v", impl.ExprText(e), got)
		}
		askFragment(t, p)
	}
	in := exprText("principal.a == 1")
	for want, texts := range map[bool][]string{true: fragmentTexts(), false: outsideTexts()} {
		for _, text := range texts {
			e := exprText(text)
			ask(e, want)
			ask(notExpr(e), want)
			ask(notExpr(notExpr(e)), want)
			for _, kind := range []int{impl.ExprAnd, impl.ExprOr} {
				ask(exprOf(kind, "", e, in), want)
				ask(exprOf(kind, "", in, e), want)
				ask(exprOf(kind, "", e, notExpr(e)), want)
			}
			ask(ifExpr(e, in, in), want)
			ask(ifExpr(in, e, in), want)
			ask(ifExpr(in, in, e), want)
			ask(ifExpr(e, e, e), want)
			ask(notExpr(ifExpr(in, exprOf(impl.ExprAnd, "", in, exprOf(impl.ExprOr, "", in, notExpr(e))), in)), want)
			// Below all else nothing is in the fragment but what is told.
			ask(negExpr(e), false)
			ask(exprOf(impl.ExprLike, "*", e), false)
			ask(exprOf(impl.ExprPlus, "", e, e), false)
			ask(exprOf(impl.ExprSame, "", e, e), false)
		}
	}
}

// All expressions of up to five nodes out of few.
func TestInFragmentOfAllSmallExprs(t *testing.T) {
	nodes := [4][]impl.Expr{
		{{Kind: impl.ExprLit, Atom: boolAtom(1)}, {Kind: impl.ExprLit, Atom: numAtom(1)}, {Kind: impl.ExprVar, Text: "resource"}, {Kind: impl.ExprVar, Text: "action"}, {Kind: impl.ExprVar, Text: "context"}},
		{{Kind: impl.ExprGet, Text: "b"}, {Kind: impl.ExprNot}, {Kind: impl.ExprHas, Text: "b"}, {Kind: impl.ExprIs, Text: "b"}, {Kind: impl.ExprNeg}},
		{{Kind: impl.ExprOr}, {Kind: impl.ExprSame}, {Kind: impl.ExprMost}, {Kind: impl.ExprIn}, {Kind: impl.ExprContains}, {Kind: impl.ExprWithin}},
		{{Kind: impl.ExprIf}},
	}
	found := map[bool]int{}
	bySize := [][][]impl.Expr{nil}
	for size := 1; size <= 5; size++ {
		var all [][]impl.Expr
		for kids, own := range nodes {
			for _, n := range own {
				n.Kids = kids
				for _, behind := range rowsOfExprs(bySize, kids, size-1) {
					all = append(all, append([]impl.Expr{n}, behind...))
				}
			}
		}
		p := plainPolicy("p")
		for _, e := range all {
			p.When = e
			want := whenIsInFragment(e)
			found[want]++
			if got := impl.InFragment(p); got != want {
				t.Fatalf("%s: got %v, want %v", impl.ExprText(e), got, want)
			}
		}
		bySize = append(bySize, all)
	}
	if found[true] < 200 || found[false] < 40000 {
		t.Errorf("found %v", found)
	}
}

func TestInFragmentByHeads(t *testing.T) {
	heads, _ := toldHeads()
	isSlot := func(h impl.Head) bool { return h.Kind == impl.HeadSlot || h.Kind == impl.HeadInSlot }
	for _, h := range heads {
		for i, put := range []func(p *impl.Policy){
			func(p *impl.Policy) { p.Principal = h },
			func(p *impl.Policy) { p.Resource = h },
			func(p *impl.Policy) { p.Principal, p.Resource = h, h },
			func(p *impl.Policy) { p.Action = h },
		} {
			for _, when := range []string{"", "principal.a"} {
				p := policyWhen(when)
				put(&p)
				if got := impl.InFragment(p); got != !isSlot(h) {
					t.Errorf("place %d of %s: got %v", i, shown(h), got)
				}
				p.Permit = false
				askFragment(t, p)
			}
		}
	}
	if impl.InFragment(impl.Policy{}) {
		t.Errorf("the zero policy is in the fragment")
	}
	in, out := 0, 0
	for _, g := range goodPolicies() {
		if askFragment(t, g.policy) {
			in++
		} else {
			out++
		}
	}
	for _, p := range badPolicies() {
		if impl.InFragment(p) {
			t.Errorf("not good, and in the fragment: %.300s", shown(p))
		}
		askFragment(t, p)
	}
	if in < 400 || out < 400 {
		t.Errorf("%d in, %d out", in, out)
	}
}

// Expressions at their limits: all nodes, and all within each other.
func TestInFragmentOfTheGreatestExprs(t *testing.T) {
	for within := 1; within <= 14; within++ {
		e := exprText("true")
		for range within - 1 {
			e = notExpr(e)
		}
		p := plainPolicy("p")
		p.When = e
		if got := impl.InFragment(p); got != (within <= 12) {
			t.Errorf("%d within each other: got %v", within, got)
		}
		askFragment(t, p)
	}
	for many := 1; many <= 32; many++ {
		p := plainPolicy("p")
		p.When = anyOf(slices.Repeat([]string{"true"}, many))
		if got := impl.InFragment(p); got != (len(p.When) <= impl.MaxExprs) {
			t.Errorf("%d nodes: got %v", len(p.When), got)
		}
		askFragment(t, p)
	}
}

// fieldRow says what the field `f` of a part may be where policies with these Whens are held against it; `W` stands for the part.
type fieldRow struct {
	kind  string
	whens []string
	want  []string
}

// quotedBytes is a text of so many bytes `a`, and what is told behind them.
func quotedBytes(many int, behind string) string {
	return `"` + strings.Repeat("a", many) + behind + `"`
}

func numberRows() []fieldRow {
	row := func(kind string, when string, want ...string) fieldRow { return fieldRow{kind, []string{when}, want} }
	rows := []fieldRow{
		row("num!", "", "0"), row("num", "", "0", "-"), row("dec!", "", "0.0000"), row("dec", "", "0.0000", "-"), row("time!", "", "@0"), row("time", "", "@0", "-"),
		row("num", "W.f < 18", "17", "18", "19", "-"),
		row("num!", "W.f < 1 || W.f == 3", "0", "1", "2", "3", "4"),
		row("num!", "W.f < 3 || W.f == 1", "0", "1", "2", "3", "4"),
		row("num!", "W.f < 1 || W.f == 2", "0", "1", "2", "3"),
		row("num!", "W.f < 1 || W.f == 1", "0", "1", "2"),
		row("num!", "W.f < 1 && 1 < W.f", "0", "1", "2"),
		row("num!", "W.f < 10 || W.f < 9", "8", "9", "10", "11"),
		row("num!", "!(W.f < 5)", "4", "5", "6"),
		row("num!", "if W.f < 5 then W.f < 20 else 40 < W.f", "4", "5", "6", "19", "20", "21", "39", "40", "41"),
		row("num!", "W.f < -1", "-2", "-1", "0"),
		row("num!", "W.f < 9223372036854775807", "9223372036854775806", "9223372036854775807"),
		row("num!", "W.f < 9223372036854775806", "9223372036854775805", "9223372036854775806", "9223372036854775807"),
		row("num!", "W.f < -9223372036854775808", "-9223372036854775808", "-9223372036854775807"),
		row("num!", "W.f < -9223372036854775807", "-9223372036854775808", "-9223372036854775807", "-9223372036854775806"),
		row("num!", "W.f < -9223372036854775808 || W.f == 9223372036854775807", "-9223372036854775808", "-9223372036854775807", "9223372036854775806", "9223372036854775807"),
		row("num!", "W.f < 100000000000", "99999999999", "100000000000", "100000000001"),
		row("dec!", "W.f < 1.5000", "1.4999", "1.5000", "1.5001"), row("dec", "1.5000 == W.f", "1.4999", "1.5000", "1.5001", "-"), row("dec!", "W.f < 0.0000", "-0.0001", "0.0000", "0.0001"),
		row("dec!", "W.f < 922337203685477.5807", "922337203685477.5806", "922337203685477.5807"),
		row("dec!", "W.f < -922337203685477.5808", "-922337203685477.5808", "-922337203685477.5807"),
		row("time!", "W.f < @5", "@4", "@5", "@6"), row("time", "@5 <= W.f", "@4", "@5", "@6", "-"),
		row("time!", "W.f < @100000000000", "@99999999999", "@100000000000"),
		row("time!", "W.f < @99999999999", "@99999999998", "@99999999999", "@100000000000"),
		row("time!", "W.f < @-100000000000", "@-100000000000", "@-99999999999"),
		row("time!", "W.f < @-99999999999", "@-100000000000", "@-99999999999", "@-99999999998"),
		{"num!", []string{"W.f < 5", "W.f < 1", "", "W.f < 5"}, []string{"0", "1", "2", "4", "5", "6"}},
	}
	for _, when := range []string{"W.f < 18", "W.f <= 18", "W.f == 18", "18 < W.f", "18 <= W.f", "18 == W.f", "W.f contains 18", `W.f < 18 && W.f < "x"`, "W.f == 18.0000 || W.f == 18"} {
		rows = append(rows, row("num!", when, "17", "18", "19"))
	}
	// What holds nothing of the kind against the field.
	for _, when := range []string{"W.f", "W has f", `W.f == "18"`, "W.f < 18.0000", "W.f == @18", "W.f == true", `W.f == User::"18"`, "W.f == 0.0.0.0/18", "W.g < 18", "W.F < 18", "W.ff < 18", `W.f contains "a"`, "true"} {
		rows = append(rows, row("num!", when, "0"), row("num", when, "0", "-"))
	}
	return rows
}

func textRows() []fieldRow {
	row := func(kind string, when string, want ...string) fieldRow { return fieldRow{kind, []string{when}, want} }
	tildes := strings.Repeat("~", impl.MaxText)
	return []fieldRow{
		row("text!", "", `""`), row("text", "", `""`, "-"), row("text!", "W.f == 5", `""`), row("text!", `W.f == User::"a"`, `""`),
		row("text!", `W.f == "b"`, `""`, `"b"`, `"b "`), row("text", `"b" <= W.f`, `""`, `"b"`, `"b "`, "-"), row("text!", `W.f contains "b"`, `""`, `"b"`, `"b "`),
		row("text!", `W.f == ""`, `""`, `" "`),
		row("text!", `W.f == " "`, `""`, `" "`, `"  "`),
		row("text!", `W.f < "b" || W.f < "a"`, `""`, `"a"`, `"a "`, `"b"`, `"b "`),
		row("text!", `W.f < "a" || W.f < "a "`, `""`, `"a"`, `"a "`, `"a  "`),
		row("text!", `W.f < "a" || W.f < "a!"`, `""`, `"a"`, `"a "`, `"a!"`, `"a! "`),
		row("text!", `W.f < "~"`, `""`, `"~"`, `"~ "`),
		row("text!", `W.f < "\"" || W.f == "\\"`, `""`, `"\""`, `"\" "`, `"\\"`, `"\\ "`),
		row("text!", "W.f < "+quotedBytes(199, ""), `""`, quotedBytes(199, ""), quotedBytes(199, " ")),
		row("text!", "W.f < "+quotedBytes(200, ""), `""`, quotedBytes(200, ""), quotedBytes(199, "b")),
		row("text!", "W.f < "+quotedBytes(199, "}"), `""`, quotedBytes(199, "}"), quotedBytes(199, "~")),
		row("text!", "W.f < "+quotedBytes(199, "~"), `""`, quotedBytes(199, "~"), quotedBytes(198, "b")),
		row("text!", "W.f < "+quotedBytes(198, "~~"), `""`, quotedBytes(198, "~~"), quotedBytes(197, "b")),
		row("text!", "W.f < "+quotedBytes(1, tildes[1:]), `""`, quotedBytes(1, tildes[1:]), `"b"`),
		row("text!", "W.f < "+quotedBytes(197, "~b~"), `""`, quotedBytes(197, "~b~"), quotedBytes(197, "~c")),
		row("text!", `W.f < "`+tildes+`"`, `""`, `"`+tildes+`"`),
		row("text", `W.f < "`+tildes+`"`, `""`, `"`+tildes+`"`, "-"),
		row("text!", `W.f < "`+tildes[1:]+`"`, `""`, `"`+tildes[1:]+`"`, `"`+tildes[1:]+` "`),
		row("text!", `W.f < "`+tildes[1:]+`}"`, `""`, `"`+tildes[1:]+`}"`, `"`+tildes+`"`),
	}
}

func otherRows() []fieldRow {
	row := func(kind string, when string, want ...string) fieldRow { return fieldRow{kind, []string{when}, want} }
	ann, bob, other := `User::"ann"`, `User::"bob"`, `User::"other"`
	blocks := []string{}
	var blockTests []string
	for bits := range 33 {
		blocks = append(blocks, fmt.Sprint("0.0.0.0/", bits))
		blockTests = append(blockTests, fmt.Sprint("W.f == 0.0.0.0/", bits))
	}
	return []fieldRow{
		row("bool!", "", "false", "true"), row("bool", "", "false", "true", "-"), row("bool!", "W.f", "false", "true"), row("bool!", "W.f == true", "false", "true"), row("bool", "false == W.f || W.f == 1", "false", "true", "-"),
		row("ref User!", "", other), row("ref User", "", other, "-"),
		row("ref User!", "W.f == "+ann, ann, other), row("ref User", ann+" == W.f", ann, other, "-"), row("ref User!", "W.f == "+bob+" || W.f == "+ann+" || W.f == "+bob, ann, bob, other),
		row("ref User!", `W.f == User::"zed"`, `User::"zed"`, other), row("ref User!", `W.f < User::"ann"`, ann, other), row("ref User!", `W.f contains User::"ann"`, ann, other),
		row("ref User!", `W.f == Team::"t"`, other), row("ref User!", `W.f == Team::"other"`, other), row("ref User!", "W.f == 5", other), row("ref User!", `W.f == "other"`, other), row("ref User!", `W.f == Users::"other"`, other),
		row("ref User!", "W.f == "+other, other, `User::"other_"`),
		row("ref User!", `W.f == User::"other_"`, `User::"other_"`, other),
		row("ref User!", `W.f == User::"other_" || W.f == `+other, other, `User::"other_"`, `User::"other__"`),
		row("ref User!", `W.f == User::"other__" || W.f == `+other, other, `User::"other__"`, `User::"other_"`),
		row("ref User!", `W.g == User::"other"`, `User::"other_"`), row("ref User!", `action == User::"other"`, `User::"other_"`),
		row("ref Team!", `W.f == Team::"t"`, `Team::"t"`, `Team::"other"`), row("ref Doc!", `W.f == Doc::"other"`, `Doc::"other"`, `Doc::"other_"`),
		row("addr!", "", "0.0.0.0/0"), row("addr", "", "0.0.0.0/0", "-"), row("addr!", "W.f == 0", "0.0.0.0/0"),
		row("addr!", "W.f == 10.0.0.0/8", "0.0.0.0/0", "10.0.0.0/8"), row("addr", "10.0.0.0/8 == W.f || W.f == 10.0.0.0/8", "0.0.0.0/0", "10.0.0.0/8", "-"),
		row("addr!", "W.f == 0.0.0.0/0", "0.0.0.0/0", "0.0.0.0/1"), row("addr!", "W.f == 0.0.0.0/1", "0.0.0.0/0", "0.0.0.0/1"),
		row("addr!", "W.f == 0.0.0.0/0 || W.f == 0.0.0.0/2", "0.0.0.0/0", "0.0.0.0/1", "0.0.0.0/2"),
		row("addr!", "W.f == 0.0.0.0/2 || W.f == 0.0.0.0/0 || W.f == 0.0.0.0/1", "0.0.0.0/0", "0.0.0.0/1", "0.0.0.0/2", "0.0.0.0/3"),
		row("addr!", "W.f == 255.255.255.255/32", "0.0.0.0/0", "255.255.255.255/32"),
		{"addr!", blockTests, append(slices.Clone(blocks), "0.0.0.1/32")},
		{"addr!", append(slices.Clone(blockTests), "W.f == 0.0.0.1/32"), append(slices.Clone(blocks), "0.0.0.1/32", "0.0.0.2/31")},
		{"addr!", append(slices.Clone(blockTests), "W.f == 0.0.0.1/32", "W.f == 0.0.0.2/31"), append(slices.Clone(blocks), "0.0.0.1/32", "0.0.0.2/31", "0.0.0.2/32")},
	}
}

func setRows() []fieldRow {
	row := func(kind string, when string, want ...string) fieldRow { return fieldRow{kind, []string{when}, want} }
	eight := []string{"[]", "[1]", "[2]", "[1,2]", "[3]", "[1,3]", "[2,3]", "[1,2,3]"}
	sixteen := slices.Clone(eight)
	for _, set := range eight {
		sixteen = append(sixteen, strings.Replace(strings.TrimSuffix(set, "]")+",4]", "[,", "[", 1))
	}
	four := "W.f contains 4 || W.f contains 2 || W.f contains 3 || W.f contains 1"
	return []fieldRow{
		row("set num!", "", "[]"), row("set num", "", "[]", "-"), row("set num!", "W.f contains 1", "[]", "[1]"), row("set num", "W.f contains 1", "[]", "[1]", "-"),
		row("set num!", "W.f contains 2 || W.f contains 1", "[]", "[1]", "[2]", "[1,2]"),
		row("set num!", "W.f contains 2 || W.f contains 3 || W.f contains 1", eight...),
		row("set num!", four, sixteen...), row("set num", four, append(slices.Clone(sixteen), "-")...),
		row("set num!", four+" || W.f contains 5"), row("set num", four+" || W.f contains 5"), row("set num", four+" || W.f == 5"),
		row("set num!", four+` || W.f contains "5" || W.f contains 3 || W.f contains true || W.f contains 5.0000`, sixteen...),
		row("set num!", "W.f == 1", "[]", "[1]"), row("set num!", "1 == W.f", "[]", "[1]"), row("set num!", "W.f < 1", "[]", "[1]"), row("set num!", "1 <= W.f", "[]", "[1]"),
		row("set num!", `W.f contains "1"`, "[]"), row("set num!", "W.f", "[]"), row("set num!", "W.g contains 1", "[]"),
		row("set bool!", "W.f contains true || W.f contains false", "[]", "[false]", "[true]", "[false,true]"), row("set bool!", "W.f contains true", "[]", "[true]"),
		row("set text!", `W.f contains "b" || W.f contains "a"`, "[]", `["a"]`, `["b"]`, `["a","b"]`), row("set text!", `W.f contains ""`, "[]", `[""]`),
		row("set dec!", "W.f contains 1.5000", "[]", "[1.5000]"), row("set time!", "W.f contains @5", "[]", "[@5]"), row("set addr!", "W.f contains 0.0.0.0/0", "[]", "[0.0.0.0/0]"),
		row("set ref User!", `W.f contains User::"b" || W.f contains User::"a" || W.f contains Team::"t"`, "[]", `[User::"a"]`, `[User::"b"]`, `[User::"a",User::"b"]`),
		row("set ref Doc!", `W.f contains User::"a"`, "[]"), row("set ref Team", `W.f contains Team::"other"`, "[]", `[Team::"other"]`, "-"),
	}
}

// fieldOf is the text of a field of a part in a case; `-` where it is missing.
func (c wordCase) fieldOf(part string, name string) string {
	t := impl.Thing{Names: c.request.Names, Values: c.request.Values}
	for _, own := range c.things {
		if part == "principal" && own.Ref == c.request.Principal || part == "resource" && own.Ref == c.request.Resource {
			t = own
		}
	}
	at := slices.Index(t.Names, name)
	if at < 0 {
		return "-"
	}
	return impl.ValueText(t.Values[at])
}

func TestFieldsOfCases(t *testing.T) {
	rows := slices.Concat(numberRows(), textRows(), otherRows(), setRows())
	for _, part := range []string{"principal", "resource", "context"} {
		others := slices.DeleteFunc([]string{"principal", "resource", "context"}, func(word string) bool { return word == part })
		for _, row := range rows {
			s := lawn(part, "f "+row.kind)
			var whens []string
			for _, when := range row.whens {
				whens = append(whens, strings.ReplaceAll(when, "W", part))
			}
			// What is held against a field of the same name of another part counts for nothing.
			policies := whensOf(append(whens, others[0]+".f < 77 || "+others[1]+".f contains 78 || "+others[0]+`.f == "x"`)...)
			var got []string
			for number := range impl.CasesOf(s, policies) {
				list, r := impl.CaseOf(s, policies, number)
				got = append(got, wordCase{list, r}.fieldOf(part, "f"))
			}
			if !slices.Equal(got, row.want) {
				t.Errorf("%s of %s by %.300q: got %.300q, want %.300q", row.kind, part, whens, got, row.want)
			}
			askAllCases(t, s, policies)
		}
	}
}

// partRow is policies, with all refs and all Parents that the principal has in cases, in order.
type partRow struct {
	heads   string
	when    string
	refs    string
	parents string
}

func partRows() []partRow {
	return []partRow{
		{"", "", `User::"other"`, "[]"},
		{"", "principal is User", `User::"other"`, "[]"},
		{" is User", "", `User::"other"`, "[]"},
		{` == User::"ann"`, "", `User::"ann" User::"other"`, "[]"},
		{` == User::"zed"`, `principal == User::"ann"`, `User::"ann" User::"zed" User::"other"`, "[]"},
		{` == User::"ann"`, `principal == User::"ann"`, `User::"ann" User::"other"`, "[]"},
		{` == Team::"t"`, "", `User::"other"`, "[]"},
		{` == Team::"other"`, "", `User::"other"`, "[]"},
		{` == User::"other"`, "", `User::"other" User::"other_"`, "[]"},
		{` == User::"other_"`, "", `User::"other_" User::"other"`, "[]"},
		{` == User::"other"`, `principal == User::"other_"`, `User::"other" User::"other_" User::"other__"`, "[]"},
		{"", `resource == User::"other"`, `User::"other_"`, "[]"},
		{"", `action in User::"other"`, `User::"other_"`, "[]"},
		{"", `principal.zip == User::"other"`, `User::"other_"`, "[]"},
		{"", `User::"other" < context.zip`, `User::"other_"`, "[]"},
		{"", `resource.zip contains User::"other"`, `User::"other_"`, "[]"},
		{` in Team::"t"`, "", `User::"other"`, `[] [Team::"t"]`},
		{"", `principal in Team::"t"`, `User::"other"`, `[] [Team::"t"]`},
		{` in Team::"t"`, `principal in Team::"t"`, `User::"other"`, `[] [Team::"t"]`},
		{` in Team::"u"`, `principal in Team::"t"`, `User::"other"`, `[] [Team::"t"] [Team::"u"] [Team::"t",Team::"u"]`},
		{` in User::"ann"`, "", `User::"ann" User::"other"`, `[] [User::"ann"]`},
		{` in User::"other"`, "", `User::"other" User::"other_"`, `[] [User::"other"]`},
		{` in User::"ann"`, `principal == User::"bob"`, `User::"ann" User::"bob" User::"other"`, `[] [User::"ann"]`},
		{` in Nobody::"n"`, `principal in Action::"view"`, `User::"other"`, `[] [Action::"view"] [Nobody::"n"] [Action::"view",Nobody::"n"]`},
		{"", `principal in 5 || principal == 5 || principal == "User" || principal in "t"`, `User::"other"`, "[]"},
		{"", `resource in Team::"t" || resource == User::"ann" || action in Team::"u" || action == User::"bob"`, `User::"other"`, "[]"},
		{"", `!(principal in Team::"c") || (if principal in Team::"b" then true else principal in Team::"a")`, `User::"other"`, `[] [Team::"a"] [Team::"b"] [Team::"a",Team::"b"] [Team::"c"] [Team::"a",Team::"c"] [Team::"b",Team::"c"] [Team::"a",Team::"b",Team::"c"]`},
	}
}

// swapped is what is said of one part said of the other.
func swapped(text string) string {
	return strings.NewReplacer("principal", "resource", "resource", "principal").Replace(text)
}

// inOrder has each text once, where it came first.
func inOrder(texts []string) string {
	var once []string
	for _, text := range texts {
		if !slices.Contains(once, text) {
			once = append(once, text)
		}
	}
	return strings.Join(once, " ")
}

func TestPartsOfCases(t *testing.T) {
	for _, row := range partRows() {
		for _, part := range []string{"principal", "resource"} {
			s := lawn("", "")
			line := `forbid "p" (principal` + row.heads + ", action, resource)"
			if part == "resource" {
				s.Actions[0].Principals, s.Actions[0].Resources = s.Actions[0].Resources, s.Actions[0].Principals
				line = `forbid "p" (principal, action, resource` + row.heads + ")"
			}
			if row.when != "" && part == "principal" {
				line += " when " + row.when
			} else if row.when != "" {
				line += " when " + swapped(row.when)
			}
			policies := policiesOf(line + ";\n")
			var refs, parents []string
			for number := range impl.CasesOf(s, policies) {
				list, r := impl.CaseOf(s, policies, number)
				if len(list) != 2 || list[0].Ref.Type != "Doc" || list[1].Ref.Type != "User" {
					t.Fatalf("%s: the things are %s", line, shown(list))
				}
				user := list[1]
				if part == "principal" && r.Principal != user.Ref || part == "resource" && r.Resource != user.Ref {
					t.Fatalf("%s: the request is %s", line, shown(r))
				}
				refs, parents = append(refs, impl.AtomText(user.Ref)), append(parents, impl.ValueText(setValue(user.Parents...)))
			}
			if got := inOrder(refs); got != row.refs {
				t.Errorf("%s: refs %s, want %s", line, got, row.refs)
			}
			if got := inOrder(parents); got != row.parents {
				t.Errorf("%s: Parents %s, want %s", line, got, row.parents)
			}
			askAllCases(t, s, policies)
		}
	}
}

// Parents of none, of MaxMentioned refs and of one more; what is mentioned twice counts once.
func TestManyParentsOfCases(t *testing.T) {
	for _, part := range []string{"principal", "resource"} {
		for many := range 8 {
			var whens []string
			for i := range many {
				whens = append(whens, fmt.Sprintf(`%s in Team::"t%d"`, part, i))
			}
			for _, more := range [][]string{nil, whens, {"", part + " in 5", "action in 5", `action in Team::"x"`, part + ` == Team::"y"`}} {
				policies := whensOf(append(slices.Clone(whens), more...)...)
				want := 1 << many
				if many > impl.MaxMentioned {
					want = 0
				}
				s := lawn("", "")
				if got := impl.CasesOf(s, policies); got != want {
					t.Errorf("%d Parents of %s: got %d cases, want %d", many, part, got, want)
				}
				askAllCases(t, s, policies)
			}
		}
	}
	// Heads and tests are counted together, those of the principal apart from those of the resource.
	both := policiesOf(`permit "a" (principal in Team::"1", action, resource in Team::"1") when principal in Team::"2" && resource in Team::"2";` + "\n" +
		`permit "b" (principal in Team::"3", action, resource in Team::"3") when principal in Team::"4" && resource in Team::"4";` + "\n")
	if got := impl.CasesOf(lawn("", ""), both); got != 256 {
		t.Errorf("four Parents of both: got %d", got)
	}
	for _, head := range []string{`principal in Team::"5", action, resource`, `principal, action, resource in Team::"5"`} {
		more := append(slices.Clone(both), policiesOf(`permit "c" (`+head+`);`+"\n")...)
		if got := impl.CasesOf(lawn("", ""), more); got != 0 {
			t.Errorf("%s: got %d", head, got)
		}
		list, r := impl.CaseOf(lawn("", ""), more, 0)
		if len(list) != 0 || !sameRequest(r, impl.Request{}) {
			t.Errorf("%s: a case %s", head, shown(list))
		}
	}
}

// All cases of a set in order, told by loops.
func TestOrderOfCases(t *testing.T) {
	s := impl.PolSchema{
		Things: []impl.ThingType{
			thingType("Doc", "", "p bool, q num!"), thingType("Team", "", ""), thingType("User", "Team", "a bool!, b set text, c text!"),
		},
		Actions: []impl.ActionType{actionTypeOf("view", "User", "Doc", "x addr!, y ref Team")},
	}
	policies := policiesOf(`forbid "a" (principal == User::"ann", action, resource in Doc::"d") when principal in Team::"t" || principal.b contains "m" || principal.c < 5;` + "\n" +
		`permit "b" (principal, action, resource) when resource.q < 3 || context.y == Team::"t";` + "\n")
	var want []string
	for _, user := range []string{"ann", "other"} {
		for _, parents := range []string{"", `Team::"t"`} {
			for _, a := range []string{" a=false", " a=true"} {
				for _, b := range []string{" b=[]", ` b=["m"]`, ""} {
					for _, doc := range []string{"d", "other"} {
						for _, ups := range []string{"", `Doc::"d"`} {
							for _, p := range []string{" p=false", " p=true", ""} {
								for _, q := range []string{" q=2", " q=3", " q=4"} {
									for _, y := range []string{` y=Team::"t"`, ` y=Team::"other"`, ""} {
										principal, resource := `User::"`+user+`"`, `Doc::"`+doc+`"`
										want = append(want, `Action::"view" | `+resource+" ^"+ups+p+q+" | "+principal+" ^"+parents+a+b+` c="" | `+principal+" "+resource+" x=0.0.0.0/0"+y)
									}
								}
							}
						}
					}
				}
			}
		}
	}
	if got := impl.CasesOf(s, policies); got != len(want) {
		t.Fatalf("got %d cases, want %d", got, len(want))
	}
	for number, text := range want {
		list, r := impl.CaseOf(s, policies, number)
		if got := (wordCase{list, r}).text(); got != text {
			t.Fatalf("case %d: got %s, want %s", number, got, text)
		}
	}
	askAllCases(t, s, policies)
}

// Sets stand one after the other, by actions, principals and resources; a case may be asked for across them.
func TestSetsOfCases(t *testing.T) {
	s := impl.PolSchema{
		Things: []impl.ThingType{
			thingType("Ape", "", "a bool!"), thingType("Box", "", "b bool!"), thingType("Cat", "", ""), thingType("Dog", "", "d bool"),
		},
		Actions: []impl.ActionType{actionTypeOf("1", "Cat Dog", "Ape Box", ""), actionTypeOf("2", "Ape", "Cat", "x bool!"), actionTypeOf("3", "Box", "Dog", "")},
	}
	var want []string
	add := func(text string, fields ...string) {
		for _, field := range fields {
			want = append(want, strings.Replace(text, "*", field, 1))
		}
	}
	add(`Action::"1" | Ape::"other" ^* | Cat::"other" ^ | Cat::"other" Ape::"other"`, " a=false", " a=true")
	add(`Action::"1" | Box::"other" ^* | Cat::"other" ^ | Cat::"other" Box::"other"`, " b=false", " b=true")
	for _, d := range []string{" d=false", " d=true", ""} {
		add(`Action::"1" | Ape::"other" ^* | Dog::"other" ^`+d+` | Dog::"other" Ape::"other"`, " a=false", " a=true")
	}
	for _, d := range []string{" d=false", " d=true", ""} {
		add(`Action::"1" | Box::"other" ^* | Dog::"other" ^`+d+` | Dog::"other" Box::"other"`, " b=false", " b=true")
	}
	for _, a := range []string{" a=false", " a=true"} {
		add(`Action::"2" | Ape::"other" ^`+a+` | Cat::"other" ^ | Ape::"other" Cat::"other"*`, " x=false", " x=true")
	}
	for _, b := range []string{" b=false", " b=true"} {
		add(`Action::"3" | Box::"other" ^`+b+` | Dog::"other" ^* | Box::"other" Dog::"other"`, " d=false", " d=true", "")
	}
	if got := impl.CasesOf(s, nil); got != len(want) {
		t.Errorf("got %d cases, want %d", got, len(want))
	}
	for number, text := range want {
		list, r := impl.CaseOf(s, nil, number)
		if got := (wordCase{list, r}).text(); got != text {
			t.Errorf("case %d: got %s, want %s", number, got, text)
		}
	}
	for _, number := range append(oddInts(), -2, len(want), len(want)+1) {
		if number >= 0 && number < len(want) {
			continue
		}
		askCase(t, s, nil, number, wordCase{})
	}
	askAllCases(t, s, nil)
}

func TestCasesOfWhatIsNotAsSaid(t *testing.T) {
	none := func(s impl.PolSchema, policies []impl.Policy, want int) {
		t.Helper()
		if got := impl.CasesOf(s, policies); got != want {
			t.Errorf("CasesOf(%.200s, %.300s): got %d, want %d", shown(s), shown(policies), got, want)
		}
		for _, number := range []int{0, -1, 1} {
			askCase(t, s, policies, number, wordCase{})
		}
	}
	s := lawn("", "")
	if got := impl.CasesOf(s, nil); got != 1 {
		t.Fatalf("got %d", got)
	}
	for _, bad := range badPolSchemas() {
		none(bad, nil, -1)
		none(bad, whensOf("true"), -1)
	}
	for _, p := range badPolicies() {
		none(s, []impl.Policy{p}, -1)
		none(s, append(whensOf("true"), p), -1)
	}
	for _, text := range outsideTexts() {
		none(s, whensOf(text), -1)
		none(s, whensOf("true", text, "true"), -1)
	}
	none(s, []impl.Policy{template()}, -1)
	for _, many := range []int{0, 1, 40, 41, 79, 80, 81, 160, 3000} {
		policies := whensOf(slices.Repeat([]string{"principal is User"}, many)...)
		if many > 2*impl.MaxPolicies {
			none(s, policies, -1)
			continue
		}
		for range 2 {
			if got := impl.CasesOf(s, policies); got != 1 {
				t.Errorf("%d policies: got %d", many, got)
			}
			askAllCases(t, s, policies)
			slices.Reverse(policies)
		}
	}
	// A wrong policy counts ahead of what leaves no way to tell.
	none(impl.PolSchema{}, whensOf("5"), -1)
	none(impl.PolSchema{}, nil, 0)
	none(impl.PolSchema{}, whensOf("true"), 0)
	none(impl.PolSchema{Things: s.Things}, whensOf(`principal in Team::"t"`), 0)
}

// The Ids of the policies count for nothing, nor does their order.
func TestCasesByAnyOrderOfIds(t *testing.T) {
	s := lawn("principal", "f num!, g set text")
	policies := policiesOf(`permit "a" (principal in Team::"t", action, resource) when principal.f < 5;` + "\n" + `forbid "b" (principal in Team::"s", action, resource) when principal.f < 3 || principal.g contains "x";` + "\n" + `permit "c" (principal == User::"ann", action, resource) when principal.f == 1;` + "\n")
	want := askAllCases(t, s, policies)
	if len(want) != 2*4*7*3 {
		t.Fatalf("got %d cases", len(want))
	}
	for _, order := range [][]int{{2, 1, 0}, {1, 0, 2}, {1, 2, 0}, {0, 1, 2, 0, 1, 2}} {
		for _, id := range []string{"", "z"} {
			var others []impl.Policy
			for _, at := range order {
				p := policies[at]
				if id != "" {
					p.Id = id
				}
				others = append(others, p)
			}
			got := askAllCases(t, s, others)
			if !slices.EqualFunc(got, want, func(a, b wordCase) bool { return a.text() == b.text() }) {
				t.Errorf("%v %q: other cases", order, id)
			}
		}
	}
}

func TestCasesWithATypeForBoth(t *testing.T) {
	s := impl.PolSchema{Things: []impl.ThingType{thingType("A", "", ""), thingType("B", "", ""), thingType("C", "", "")}}
	for _, c := range []struct {
		principals string
		resources  string
		want       int
	}{
		{"A", "A", 0}, {"A", "B", 1}, {"B", "A", 1}, {"A B", "C", 2}, {"A", "B C", 2}, {"C", "A B", 2}, {"A B", "B C", 0}, {"B C", "A B", 0}, {"A B", "B", 0}, {"A", "A B", 0}, {"A B C", "C", 0}, {"A B C", "A B C", 0}, {"B", "A B", 0}, {"B C", "A", 2},
	} {
		s.Actions = []impl.ActionType{actionTypeOf("m", c.principals, c.resources, "")}
		if got := impl.CasesOf(s, nil); got != c.want {
			t.Errorf("%s on %s: got %d, want %d", c.principals, c.resources, got, c.want)
		}
		askAllCases(t, s, nil)
		// One such set is enough, whatever stands ahead of it and behind it.
		want := c.want
		if want > 0 {
			want += 2
		}
		s.Actions = []impl.ActionType{actionTypeOf("a", "A", "B", ""), s.Actions[0], actionTypeOf("z", "B", "A", "")}
		if got := impl.CasesOf(s, nil); got != want {
			t.Errorf("%s on %s, among others: got %d, want %d", c.principals, c.resources, got, want)
		}
		askAllCases(t, s, nil)
	}
}

// The other one is as long as it may be, and one longer.
func TestCasesWithTheLongestOtherOne(t *testing.T) {
	longest := "other" + strings.Repeat("_", impl.MaxText-len("other"))
	for _, typ := range []string{"User", "Doc", "Team"} {
		for _, many := range []int{194, 195, 196} {
			policies := manyTests(otherTests("principal.zip", typ, many))
			for _, kind := range []string{"", "f ref " + typ + "!", "f set ref " + typ + "!"} {
				s := lawn("context", kind)
				want := 1
				if many == 196 && (typ != "Team" || kind == "f ref Team!") {
					want = 0
				}
				if got := impl.CasesOf(s, policies); got != want {
					t.Errorf("%d of %s, %s: got %d, want %d", many, typ, kind, got, want)
				}
				cases := askAllCases(t, s, policies)
				if many == 195 && typ == "User" && cases[0].request.Principal.Text != longest {
					t.Errorf("the longest other one is %s", cases[0].request.Principal.Text)
				}
			}
		}
	}
	// One that is not told makes room again.
	tests := otherTests("principal.zip", "User", 196)
	for _, gone := range []int{0, 1, 100, 195} {
		cases := askAllCases(t, lawn("", ""), manyTests(slices.Delete(slices.Clone(tests), gone, gone+1)))
		if want := "other" + strings.Repeat("_", gone); len(cases) != 1 || cases[0].request.Principal.Text != want {
			t.Errorf("without %s: got %d cases", want, len(cases))
		}
	}
}

// Just MaxCases cases, and one more.
func TestCasesAtTheirLimit(t *testing.T) {
	five := "a num!, b num!, p bool!, q bool!"
	s := impl.PolSchema{
		Things:  []impl.ThingType{thingType("A", "", ""), thingType("B", "", ""), thingType("Doc", "", five), thingType("User", "", five)},
		Actions: []impl.ActionType{actionTypeOf("m", "User", "Doc", "")},
	}
	tests := slices.Concat(numberTests("principal.a", 1, 3), numberTests("principal.b", 1, 3), numberTests("resource.a", 1, 3), numberTests("resource.b", 1, 3))
	policies := manyTests(tests)
	ask := func(s impl.PolSchema, want int) {
		t.Helper()
		if got := impl.CasesOf(s, policies); got != want {
			t.Errorf("got %d cases, want %d", got, want)
		}
		askAllCases(t, s, policies)
	}
	ask(s, 0)
	s.Things[2].Attrs = s.Things[2].Attrs[:3]
	ask(s, 5000)
	whole := impl.PolSchema{Things: s.Things, Actions: []impl.ActionType{s.Actions[0], actionTypeOf("n", "A", "B", "")}}
	ask(whole, 0)
	whole.Actions = []impl.ActionType{actionTypeOf("a", "A", "B", ""), s.Actions[0]}
	ask(whole, 0)
	// Two sets that are too many together, three that are not.
	s.Things[3].Attrs = s.Things[3].Attrs[:3]
	s.Actions = append(s.Actions, actionTypeOf("n", "User", "Doc", ""))
	ask(s, 5000)
	s.Actions = append(s.Actions, actionTypeOf("o", "A", "B", ""))
	ask(s, 0)
	// So many that they are no int: 2 to the power of 68, and 3 to that of 60.
	for _, must := range []bool{true, false} {
		var bools []impl.AttrKind
		for _, name := range countedNames(impl.MaxFields) {
			bools = append(bools, impl.AttrKind{Name: name, Kind: "bool", Must: must})
		}
		s := impl.PolSchema{
			Things:  []impl.ThingType{{Name: "Doc", Attrs: bools}, {Name: "User", Attrs: bools}},
			Actions: []impl.ActionType{{Id: "m", Principals: []string{"User"}, Resources: []string{"Doc"}, Context: bools}},
		}
		var whens []string
		for i := range 4 {
			whens = append(whens, fmt.Sprintf(`principal in Team::"%d" && resource in Team::"%d"`, i, i))
		}
		if got := impl.CasesOf(s, whensOf(whens...)); got != 0 {
			t.Errorf("too many for an int: got %d", got)
		}
		askAllCases(t, s, whensOf(whens...))
	}
}

// Schemas at their limits, with as many sets as may be.
func TestCasesOfTheGreatestSchemas(t *testing.T) {
	s := fullSchema()
	for i := range s.Actions {
		s.Actions[i].Principals, s.Actions[i].Resources = s.Actions[i].Principals[:10], s.Actions[i].Resources[10:]
	}
	none := whensOf("true")
	for _, many := range []int{0, 1, 2} {
		own := impl.PolSchema{Things: slices.Clone(s.Things), Actions: slices.Clone(s.Actions)}
		for i := range own.Things {
			own.Things[i].Attrs = own.Things[i].Attrs[:many]
		}
		for i := range own.Actions {
			own.Actions[i].Context = own.Actions[i].Context[:many]
		}
		want := 2000
		if many == 2 {
			want = 0
		}
		if got := impl.CasesOf(own, none); got != want {
			t.Errorf("%d attributes: got %d, want %d", many, got, want)
		}
		askAllCases(t, own, none)
	}
	if got := impl.CasesOf(s, none); got != 0 {
		t.Errorf("all attributes: got %d", got)
	}
	if got := impl.CasesOf(fullSchema(), none); got != 0 {
		t.Errorf("a Type for both: got %d", got)
	}
	for _, g := range goodPolSchemas() {
		askAllCases(t, g, none)
	}
	// As many literals as policies may have.
	many := manyTests(slices.Concat(numberTests("principal.f", 0, 480), numberTests("resource.f", 0, 480)))
	askAllCases(t, lawn("principal", "f num!"), many)
	askAllCases(t, lawn("context", "f num!"), many)
}

// garden has fields of each sort that a verdict may hang on.
func garden() impl.PolSchema {
	return impl.PolSchema{
		Things: []impl.ThingType{
			thingType("Doc", "Team", "open bool!"),
			thingType("Team", "Team", ""),
			thingType("User", "Team User", "age num!, boss ref User, name text, tags set text!"),
		},
		Actions: []impl.ActionType{actionTypeOf("view", "User", "Doc", "")},
	}
}

// linesOf are policies told by what stands behind the Id, the word `permit` or `forbid` ahead of it; a bare expression is a When that permits.
func linesOf(lines ...string) []impl.Policy {
	text := ""
	for i, line := range lines {
		word, rest, _ := strings.Cut(line, " ")
		switch {
		case word != "permit" && word != "forbid":
			text += fmt.Sprintf("permit \"p%d\" (principal, action, resource) when %s;\n", 100+i, line)
		case strings.HasPrefix(rest, "("):
			text += fmt.Sprintf("%s \"p%d\" %s;\n", word, 100+i, rest)
		case rest == "":
			text += fmt.Sprintf("%s \"p%d\" (principal, action, resource);\n", word, 100+i)
		default:
			text += fmt.Sprintf("%s \"p%d\" (principal, action, resource) when %s;\n", word, 100+i, rest)
		}
	}
	return policiesOf(text)
}

// verdictText is `yes`, `unknown`, nothing, or what tells the case: the fields of the principal, and its Parents and Text where these are told, and the resource's.
func verdictText(v impl.Verdict) string {
	switch {
	case v.Kind == impl.VerdictNo:
	case len(v.Things) > 0 || !sameRequest(v.Request, impl.Request{}):
		return "a case with no VerdictNo"
	case v.Kind == impl.VerdictYes:
		return "yes"
	case v.Kind == impl.VerdictUnknown:
		return "unknown"
	default:
		return fmt.Sprint("zero", v.Kind)
	}
	c := wordCase{v.Things, v.Request}
	var words []string
	if v.Request.Principal.Text != "other" {
		words = append(words, v.Request.Principal.Text)
	}
	if v.Request.Resource.Text != "other" {
		words = append(words, v.Request.Resource.Text)
	}
	for _, thing := range v.Things {
		for _, up := range thing.Parents {
			words = append(words, "^"+up.Text)
		}
	}
	for _, name := range []string{"age", "boss", "name", "tags"} {
		plain := map[string]string{"age": "0", "boss": `User::"other"`, "name": `""`, "tags": "[]"}[name]
		if text := c.fieldOf("principal", name); text != plain {
			words = append(words, name+"="+text)
		}
	}
	if c.fieldOf("resource", "open") == "true" {
		words = append(words, "open")
	}
	return "no: " + strings.Join(words, " ")
}

// verdictRow is two lists of policies, each with `; ` between, with what Equivalent, NeverAllows and AllowsNoMore tell of them in the garden. NeverAllows takes the first one alone, so its cases may be others.
type verdictRow struct {
	a, b, equivalent, never, noMore string
}

func verdictRows() []verdictRow {
	tail := "principal.age < 18 && resource.open"
	return []verdictRow{
		// Lists without policies, and such as allow all or nothing.
		{"", "", "yes", "yes", "yes"},
		{"permit", "", "no: ", "no: ", "no: "},
		{"", "permit", "no: ", "yes", "yes"},
		{"permit", "permit; permit", "yes", "no: ", "yes"},
		{"permit; forbid", "", "yes", "yes", "yes"},
		{"forbid", "permit false", "yes", "yes", "yes"},
		{"forbid true", "forbid false", "yes", "yes", "yes"},
		{"true", "permit", "yes", "no: ", "yes"},

		// Numbers, and the first case that is otherwise.
		{"principal.age < 18", "!(18 <= principal.age)", "yes", "no: age=17", "yes"},
		{"principal.age < 18", "principal.age <= 17", "yes", "no: age=17", "yes"},
		{"principal.age < 18", "principal.age <= 18", "no: age=18", "no: age=17", "yes"},
		{"principal.age <= 18", "principal.age < 18", "no: age=18", "no: age=17", "no: age=18"},
		{"18 < principal.age", "18 <= principal.age", "no: age=18", "no: age=19", "yes"},
		{"principal.age < 18", "permit", "no: age=18", "no: age=17", "yes"},
		{"permit", "principal.age < 18", "no: age=18", "no: ", "no: age=18"},
		{"principal.age < 18", "principal.age < 18; principal.age == 50", "no: age=50", "no: age=17", "yes"},
		{"principal.age < 18 || principal.age == 50", "principal.age < 18", "no: age=50", "no: age=17", "no: age=50"},
		{"principal.age < 18", "principal.age == 17", "no: age=16", "no: age=17", "no: age=16"},
		{"principal.age == 18", "principal.age == 19", "no: age=18", "no: age=18", "no: age=18"},
		{"principal.age < 1 && 5 < principal.age", "", "yes", "yes", "yes"},
		{"principal.age < 1; 5 < principal.age", "!(1 <= principal.age && principal.age <= 5)", "yes", "no: ", "yes"},
		{"principal.age <= 9223372036854775807", "permit", "yes", "no: age=9223372036854775806", "yes"},
		{"principal.age < 9223372036854775807", "permit", "no: age=9223372036854775807", "no: age=9223372036854775806", "yes"},
		{"principal.age < -9223372036854775808", "", "yes", "yes", "yes"},
		{"principal.age <= -9223372036854775808", "", "no: age=-9223372036854775808", "no: age=-9223372036854775808", "no: age=-9223372036854775808"},

		// A difference in the first case alone, in one in the middle, in the last.
		{"permit", "!(principal.age < 18 && !resource.open)", "no: age=17", "no: ", "no: age=17"},
		{tail, "", "no: age=17 open", "no: age=17 open", "no: age=17 open"},
		{"permit", "!(principal.age == 18 && resource.open)", "no: age=18 open", "no: ", "no: age=18 open"},
		{"!(principal.age == 18 && resource.open)", "permit", "no: age=18 open", "no: age=17", "yes"},
		{"permit; forbid 5 < principal.age && resource.open && !(principal has name) && !(principal has boss)", "permit", "no: age=6 boss=- name=- open", "no: age=4", "yes"},

		// What forbids, and what is faulty.
		{"permit; forbid resource.open", "!resource.open", "yes", "no: ", "yes"},
		{"permit; forbid resource.open", "permit", "no: open", "no: ", "yes"},
		{"permit; forbid principal.zip", "permit", "yes", "no: ", "yes"},
		{"permit; forbid principal.age", "permit", "yes", "no: ", "yes"},
		{"permit; forbid !resource.open && resource.zip", "permit", "yes", "no: ", "yes"},
		{"permit; forbid resource.open || resource.zip", "!resource.open", "yes", "no: ", "yes"},
		{"principal.zip", "", "yes", "yes", "yes"},
		{"principal.age", "", "yes", "yes", "yes"},
		{`principal.age < "a"`, "", "yes", "yes", "yes"},
		{`!(principal.age < "a")`, "", "yes", "yes", "yes"},
		{`principal.age == "a"`, "", "yes", "yes", "yes"},
		{`!(principal.age == "a")`, "permit", "yes", "no: ", "yes"},
		{"principal.age contains 5", "", "yes", "yes", "yes"},
		{"principal.tags < 5 || true", "", "yes", "yes", "yes"},
		{"true || principal.zip", "permit", "yes", "no: ", "yes"},
		{"if resource.open then principal.zip else true", "!resource.open", "yes", "no: ", "yes"},

		// Fields that may be missing.
		{`principal.name == "x"`, `principal has name && principal.name == "x"`, "yes", `no: name="x"`, "yes"},
		{`!(principal.name == "x")`, `!(principal has name && principal.name == "x")`, "no: name=-", "no: ", "yes"},
		{"principal has name || !(principal has name)", "permit", "yes", "no: ", "yes"},
		{"principal has name", "permit", "no: name=-", "no: ", "yes"},
		{"principal has age", "permit", "yes", "no: ", "yes"},
		{"principal has zip", "", "yes", "yes", "yes"},
		{"context has zip; context.zip", "", "yes", "yes", "yes"},

		// Texts.
		{`principal.name < "a "`, `principal.name <= "a"`, "yes", "no: ", "yes"},
		{`principal.name < "b"`, `principal.name <= "a"`, `no: name="a "`, "no: ", `no: name="a "`},
		{`principal.name < ""`, "", "yes", "yes", "yes"},
		{`principal.name <= ""`, `principal.name == ""`, "yes", "no: ", "yes"},
		{`"a" < principal.name`, `"a " <= principal.name`, "yes", `no: name="a "`, "yes"},
		{`"b" <= principal.name`, `"a" < principal.name`, `no: name="a "`, `no: name="b"`, "yes"},

		// Refs, Parents and Types.
		{`permit (principal == User::"ann", action, resource)`, `principal == User::"ann"`, "yes", "no: ann", "yes"},
		{`permit (principal in Team::"t", action, resource)`, `principal in Team::"t"`, "yes", "no: ^t", "yes"},
		{`principal == User::"ann"`, `principal in User::"ann"`, "no: ^ann", "no: ann", "yes"},
		{`principal in User::"ann"`, `principal == User::"ann"`, "no: ^ann", "no: ann", "no: ^ann"},
		{`principal in Team::"t" && principal in Team::"u"`, `principal in Team::"t"`, "no: ^t", "no: ^t ^u", "yes"},
		{`permit (principal, action, resource in Team::"t")`, `principal in Team::"t"`, "no: ^t", "no: ^t", "no: ^t"},
		{`principal == Team::"t"; principal == 5; resource == User::"ann"`, "", "yes", "yes", "yes"},
		{`principal in 5; action in 5`, "", "yes", "yes", "yes"},
		{`!(principal == 5)`, "permit", "yes", "no: ", "yes"},
		{`principal == User::"other"`, "", `no: boss=User::"other_"`, `no: boss=User::"other_"`, `no: boss=User::"other_"`},
		{`!(principal == User::"other")`, "", `no: other_ boss=User::"other_"`, `no: other_ boss=User::"other_"`, `no: other_ boss=User::"other_"`},
		{`principal.boss == User::"ann"`, "principal has boss", `no: `, `no: boss=User::"ann"`, "yes"},
		{`permit (principal is User, action is Action, resource is Doc)`, "permit", "yes", "no: ", "yes"},
		{"principal is Doc; resource is User", "", "yes", "yes", "yes"},
		{`permit (principal, action == Action::"view", resource)`, "permit", "yes", "no: ", "yes"},
		{`action == Action::"view" && action in Action::"view"`, "permit", "yes", "no: ", "yes"},
		{`permit (principal, action in Action::"edit", resource); action == Action::"edit"; action in Action::"edit"`, "", "yes", "yes", "yes"},

		// Sets.
		{`principal.tags contains "x" || principal.tags contains "y"`, `!(!(principal.tags contains "x") && !(principal.tags contains "y"))`, "yes", `no: tags=["x"]`, "yes"},
		{`principal.tags contains "x"`, `principal.tags contains "y"`, `no: tags=["x"]`, `no: tags=["x"]`, `no: tags=["x"]`},
		{`principal.tags contains "x" && principal.tags contains "y"`, `principal.tags contains "y"`, `no: tags=["y"]`, `no: tags=["x","y"]`, "yes"},
		{`principal.tags contains 5; principal.tags == "x"`, "", "yes", "yes", "yes"},
		{`!(principal.tags == "x")`, "permit", "yes", "no: ", "yes"},
	}
}

func splitLines(text string) []impl.Policy {
	if text == "" {
		return nil
	}
	return linesOf(strings.Split(text, "; ")...)
}

func TestVerdicts(t *testing.T) {
	s := garden()
	for _, row := range verdictRows() {
		a, b := splitLines(row.a), splitLines(row.b)
		got := verdictsOf(s, a, b)
		for name, own := range map[string][2]string{
			"Equivalent":   {verdictText(got.equivalent), row.equivalent},
			"NeverAllows":  {verdictText(got.never), row.never},
			"AllowsNoMore": {verdictText(got.noMore), row.noMore},
		} {
			if own[0] != own[1] {
				t.Errorf("%s, %s: %s: got %q, want %q", row.a, row.b, name, own[0], own[1])
			}
		}
		askVerdicts(t, s, a, b)
		askVerdicts(t, s, b, a)
		askVerdicts(t, s, a, a)
	}
}

func TestVerdictsOfWhatIsNotAsSaid(t *testing.T) {
	s := garden()
	good, outside := linesOf("principal.age < 18"), linesOf("principal.age + 1 == 2")
	ask := func(s impl.PolSchema, a []impl.Policy, b []impl.Policy, equivalent int, never int, noMore int) {
		t.Helper()
		got := verdictsOf(s, a, b)
		for i, own := range [][2]impl.Verdict{{got.equivalent, {Kind: equivalent}}, {got.never, {Kind: never}}, {got.noMore, {Kind: noMore}}} {
			if !sameVerdict(own[0], own[1]) {
				t.Errorf("verdict %d of %.300s, %.300s: got %.300s, want the Kind %d and nothing else", i, shown(a), shown(b), shown(own[0]), own[1].Kind)
			}
		}
		askVerdicts(t, s, a, b)
	}
	falling := linesOf("false", "false")
	slices.Reverse(falling)
	twice := append(linesOf("false"), linesOf("false")...)
	many := whensOf(slices.Repeat([]string{"false"}, impl.MaxPolicies+1)...)
	notGood := linesOf("false")
	notGood[0].Id = ""
	yes, unknown := impl.VerdictYes, impl.VerdictUnknown
	none := linesOf("false")
	for _, bad := range [][]impl.Policy{falling, twice, many, notGood, append(linesOf("principal + 1"), notGood...), make([]impl.Policy, 1)} {
		ask(s, bad, none, 0, 0, 0)
		ask(s, none, bad, 0, yes, 0)
		ask(s, bad, bad, 0, 0, 0)
		ask(s, bad, outside, 0, 0, 0)
		ask(s, outside, bad, 0, unknown, 0)
		ask(impl.PolSchema{}, bad, none, 0, 0, 0)
	}
	for _, p := range badPolicies() {
		got := verdictsOf(s, []impl.Policy{p}, nil)
		if !sameVerdict(got.equivalent, impl.Verdict{}) || !sameVerdict(got.never, impl.Verdict{}) || !sameVerdict(got.noMore, impl.Verdict{}) {
			t.Errorf("%.300s: got %.300s", shown(p), shown(got))
		}
	}
	for _, bad := range badPolSchemas() {
		for _, policies := range [][]impl.Policy{nil, good, outside} {
			got := verdictsOf(bad, policies, nil)
			if !sameVerdict(got.equivalent, impl.Verdict{}) || !sameVerdict(got.never, impl.Verdict{}) || !sameVerdict(got.noMore, impl.Verdict{}) {
				t.Errorf("%.300s: got %.300s", shown(bad), shown(got))
			}
		}
	}
	// What is not in the fragment, a slot among it, whatever the cases are.
	for _, text := range outsideTexts() {
		ask(s, whensOf(text), none, unknown, unknown, unknown)
		ask(s, none, whensOf("true", text), unknown, yes, unknown)
	}
	for _, p := range []impl.Policy{template(), {Id: "p", Principal: impl.Head{Kind: impl.HeadSlot}, Action: anyHead(), Resource: anyHead()}, {Id: "p", Principal: anyHead(), Action: anyHead(), Resource: impl.Head{Kind: impl.HeadInSlot}}} {
		ask(s, []impl.Policy{p}, none, unknown, unknown, unknown)
		ask(s, none, []impl.Policy{p}, unknown, yes, unknown)
	}
	ask(s, outside, outside, unknown, unknown, unknown)
}

// Where there are no cases, or no way to tell them, nothing is known, however plain it is.
func TestVerdictsWithoutCases(t *testing.T) {
	ask := func(what string, s impl.PolSchema, a []impl.Policy, b []impl.Policy, want toldVerdicts) {
		t.Helper()
		got := verdictsOf(s, a, b)
		if !sameVerdict(got.equivalent, want.equivalent) || !sameVerdict(got.never, want.never) || !sameVerdict(got.noMore, want.noMore) {
			t.Errorf("%s: got %s", what, shown(got))
		}
		askVerdicts(t, s, a, b)
	}
	yes, unknown := impl.Verdict{Kind: impl.VerdictYes}, impl.Verdict{Kind: impl.VerdictUnknown}
	both := toldVerdicts{unknown, unknown, unknown}
	together := toldVerdicts{unknown, yes, unknown}
	ask("no schema", impl.PolSchema{}, nil, nil, both)
	ask("no actions", impl.PolSchema{Things: garden().Things}, nil, linesOf("permit"), both)
	same := garden()
	same.Actions[0].Resources = []string{"Doc", "User"}
	ask("a Type for both", same, nil, nil, both)
	var ups, tags []string
	for i := range 5 {
		ups = append(ups, fmt.Sprintf(`principal in Team::"%d" && false`, i))
		tags = append(tags, fmt.Sprintf(`principal.tags contains "%d" && false`, i))
	}
	for _, whens := range [][]string{ups, tags} {
		ask("five", garden(), whensOf(whens...), nil, both)
		ask("five of b", garden(), nil, whensOf(whens...), together)
		ask("three and two", garden(), whensOf(whens[:3]...), whensOf(whens[3:]...), together)
		ask("three and two, told twice", garden(), whensOf(whens[:4]...), whensOf(whens[1:4]...), toldVerdicts{yes, yes, yes})
	}
	tests := otherTests("principal.zip", "User", 196)
	ask("too long", lawn("", ""), manyTests(tests), nil, both)
	ask("too long together", lawn("", ""), manyTests(tests[:100]), manyTests(tests[100:]), together)
	ask("as long as may be", lawn("", ""), manyTests(tests[:100]), manyTests(tests[101:]), toldVerdicts{yes, yes, yes})
	wide := lawn("principal", "a num!, b num!, c num!, d num!, p bool!, q bool!, r bool!")
	var whens []string
	for _, name := range []string{"a", "b", "c", "d"} {
		whens = append(whens, "false && ("+impl.ExprText(anyOf(numberTests("principal."+name, 1, 3)))+")")
	}
	ask("just so many", wide, whensOf(whens[:2]...), whensOf(whens[2:]...), toldVerdicts{yes, yes, yes})
	ask("one more literal", wide, whensOf(whens...), whensOf("false && principal.d < 4"), together)
}

// The greatest lists: MaxPolicies policies in each, as many cases as may be, the last one of which is the one that is told.
func TestVerdictsAtTheirLimit(t *testing.T) {
	s := lawn("principal", "a num!, b num!, c num!, d num!, p bool!, q bool!, r bool!")
	last := "3 < principal.a && 3 < principal.b && 3 < principal.c && 3 < principal.d && principal.p && principal.q && principal.r"
	var whens []string
	for i := range impl.MaxPolicies - 1 {
		whens = append(whens, fmt.Sprintf("principal.%c < %d && false", 'a'+i%4, 1+i%3))
	}
	a, b := whensOf(append(whens, last)...), whensOf(append(whens, "false")...)
	got := verdictsOf(s, a, b)
	list, r := impl.CaseOf(s, append(slices.Clone(a), b...), impl.MaxCases-1)
	want := impl.Verdict{Kind: impl.VerdictNo, Things: list, Request: r}
	if len(list) != 2 || !sameVerdict(got.equivalent, want) || !sameVerdict(got.never, want) || !sameVerdict(got.noMore, want) {
		t.Errorf("the last case: got %s, want %s", shown(got), shown(want))
	}
	yes := impl.Verdict{Kind: impl.VerdictYes}
	if got := verdictsOf(s, b, a); !sameVerdict(got.equivalent, want) || !sameVerdict(got.never, yes) || !sameVerdict(got.noMore, yes) {
		t.Errorf("the other way about: got %s", shown(got))
	}
	for _, many := range []int{39, 40, 41} {
		all := whensOf(slices.Repeat([]string{"false"}, many)...)
		kind := impl.VerdictYes
		if many > impl.MaxPolicies {
			kind = 0
		}
		for _, got := range []impl.Verdict{impl.Equivalent(s, all, all), impl.Equivalent(s, nil, all), impl.NeverAllows(s, all), impl.AllowsNoMore(s, all, all), impl.AllowsNoMore(s, all, nil)} {
			if !sameVerdict(got, impl.Verdict{Kind: kind}) {
				t.Errorf("%d policies: got %s", many, shown(got))
			}
		}
	}
}

// answersTo is how a value is held against each literal of its kind.
func answersTo(v impl.Value, lits []impl.Atom) string {
	text := ""
	for _, lit := range lits {
		switch {
		case v.Kind == impl.ValueSet:
			text += fmt.Sprint(slices.Contains(v.Items, lit), " ")
		case slices.Contains([]int{impl.NumAtom, impl.TextAtom, impl.DecAtom, impl.TimeAtom}, v.Atom.Kind) && v.Atom.Kind == lit.Kind:
			text += fmt.Sprint(impl.CompareAtoms(v.Atom, lit), " ")
		default:
			text += fmt.Sprint(v.Atom == lit, " ")
		}
	}
	return text
}

// chosenFor is the first of the options that is held against the literals as the value is; a bool stands for itself.
func chosenFor(t *testing.T, c choiceByWords, v impl.Value, lits []impl.Atom) [2]string {
	t.Helper()
	for _, option := range c.options {
		if option == "-" {
			continue
		}
		own := valueOf(option)
		isBool := v.Atom.Kind == impl.BoolAtom
		if isBool && own.Atom == v.Atom || !isBool && answersTo(own, lits) == answersTo(v, lits) {
			return [2]string{c.what, option}
		}
	}
	t.Fatalf("nothing stands for %s among %q", impl.ValueText(v), c.options)
	return [2]string{}
}

// fieldsFor chooses for the fields that are there, and `-` for those that are not.
func fieldsFor(t *testing.T, choices []choiceByWords, names []string, values []impl.Value, mentions map[string][]impl.Atom) [][2]string {
	var row [][2]string
	for _, c := range choices {
		_, name, _ := strings.Cut(c.what, ".")
		if at := slices.Index(names, name); at >= 0 {
			row = append(row, chosenFor(t, c, values[at], mentions[c.what]))
		} else {
			row = append(row, [2]string{c.what, "-"})
		}
	}
	return row
}

// caseOfWorld is the case that stands for a good world: what is above a part, by way of others or not, is right above it there.
func caseOfWorld(t *testing.T, w toldWorld, policies []impl.Policy) wordCase {
	t.Helper()
	mentions := mentionsByWords(policies)
	var row [][2]string
	for _, part := range []struct {
		word string
		ref  impl.Atom
	}{{"principal", w.request.Principal}, {"resource", w.request.Resource}} {
		choices := thingChoicesByWords(w.schema, part.word, part.ref.Type, mentions)
		var above []impl.Atom
		for _, up := range ancestorsByWords(w.things, part.ref) {
			if slices.Contains(mentions[part.word+"^"], up) {
				above = append(above, up)
			}
		}
		thing := w.thing(impl.AtomText(part.ref))
		row = append(row, chosenFor(t, choices[0], atomValue(part.ref), mentions[part.word]), [2]string{part.word + "^", impl.ValueText(setValue(above...))})
		row = append(row, fieldsFor(t, choices[2:], thing.Names, thing.Values, mentions)...)
	}
	action := w.request.Action.Text
	own := w.schema.Actions[slices.Index(actionIds(w.schema), action)]
	choices := fieldChoicesByWords("context", own.Context, mentions)
	return caseOfRow(action, append(row, fieldsFor(t, choices, w.request.Names, w.request.Values, mentions)...))
}

// othersLike draws a list that is like the one that is told: the same in other words, with another literal, without a policy, or another one.
func (d yardDrawer) othersLike(s impl.PolSchema, policies []impl.Policy) []impl.Policy {
	switch d.from.Intn(6) {
	case 0:
		return d.policies(s, d.from.Intn(4))
	case 1:
		return slices.Delete(slices.Clone(policies), 0, min(len(policies), 1))
	}
	others := slices.Clone(policies)
	for i, p := range others {
		if len(p.When) == 0 {
			continue
		}
		others[i].When = d.rewritten(p.When)
		if at := d.from.Intn(len(p.When)); d.from.Intn(6) == 0 && p.When[at].Kind == impl.ExprLit && p.When[at].Atom.Kind == impl.NumAtom {
			others[i].When = slices.Clone(p.When)
			others[i].When[at].Atom.Num ^= 1
		}
	}
	return others
}

// yard draws a schema with two lists of policies for which there are cases, and no more than so many.
func (d yardDrawer) yard(most int) (impl.PolSchema, []impl.Policy, []impl.Policy) {
	for {
		s := d.schema()
		a := d.policies(s, d.from.Intn(5))
		b := d.othersLike(s, a)
		if many := impl.CasesOf(s, slices.Concat(a, b)); many > 0 && many <= most {
			return s, a, b
		}
	}
}

func TestDrawnCases(t *testing.T) {
	d := yardDrawer{drawn()}
	found := map[string]int{}
	for range 1000 {
		s := d.schema()
		policies := d.policies(s, oneOf(d.from, []int{0, 1, 2, 4, 8, 16}))
		cases := askAllCases(t, s, policies)
		if len(cases) == 0 {
			found["none"]++
			continue
		}
		found["cases"] += len(cases)
		if len(s.Actions) > 1 {
			found["two"]++
		}
	}
	if found["none"] < 50 || found["cases"] < 100000 || found["two"] < 300 {
		t.Errorf("found %v", found)
	}
}

func TestDrawnVerdicts(t *testing.T) {
	d := yardDrawer{drawn()}
	found := map[string]int{}
	for range 700 {
		s, a, b := d.yard(700)
		got := askVerdicts(t, s, a, b)
		found[fmt.Sprint("equivalent ", got.equivalent.Kind)]++
		found[fmt.Sprint("never ", got.never.Kind)]++
		found[fmt.Sprint("no more ", got.noMore.Kind)]++
	}
	for _, what := range []string{"equivalent 1", "equivalent 2", "never 1", "never 2", "no more 1", "no more 2"} {
		if found[what] < 60 {
			t.Errorf("%s: found %v", what, found)
		}
	}
}

// What a case is made of is enough: for each good world there is a case that is decided as it is, in all that Decide tells.
func TestACaseStandsForEachWorld(t *testing.T) {
	d := yardDrawer{drawn()}
	found := map[string]int{}
	for range 250 {
		s, a, b := d.yard(1500)
		all := slices.Concat(a, b)
		cases, _ := casesByWords(s, all)
		numbers := map[string]int{}
		for number, c := range cases {
			numbers[c.text()] = number
		}
		for range 25 {
			w := d.world(s)
			if !impl.GoodWorld(s, w.things, w.request) {
				t.Fatalf("no good world: %s", shown(w))
			}
			own := caseOfWorld(t, w, all)
			number, ok := numbers[own.text()]
			if !ok {
				t.Fatalf("%s is no case, by %s, %s", own.text(), shown(s), policiesText(all))
			}
			askCase(t, s, all, number, own)
			for _, policies := range [][]impl.Policy{a, b} {
				want, got := impl.Decide(w.things, w.request, policies), impl.Decide(own.things, own.request, policies)
				if !sameDecision(got, want) {
					t.Errorf("%s decide %s, and %s in its case %s; the world is %s", policiesText(policies), shown(want), shown(got), own.text(), shown(w))
				}
				found[fmt.Sprint("allow ", want.Allow)]++
				found["faulty"] += len(want.Faulty)
			}
			found["parents"] += len(own.things[0].Parents) + len(own.things[1].Parents)
		}
	}
	if found["allow true"] < 1500 || found["allow false"] < 1500 || found["faulty"] < 1500 || found["parents"] < 500 {
		t.Errorf("found %v", found)
	}
}

// Where a verdict is Yes no good world is decided otherwise.
func TestVerdictsHoldOfWorlds(t *testing.T) {
	d := yardDrawer{drawn()}
	found := map[string]int{}
	for range 500 {
		s, a, b := d.yard(1500)
		v := verdictsOf(s, a, b)
		for range 20 {
			w := d.world(s)
			byA, byB := impl.Decide(w.things, w.request, a).Allow, impl.Decide(w.things, w.request, b).Allow
			for name, own := range map[string]struct {
				kind  int
				wrong bool
			}{"Equivalent": {v.equivalent.Kind, byA != byB}, "NeverAllows": {v.never.Kind, byA}, "AllowsNoMore": {v.noMore.Kind, byA && !byB}} {
				if own.kind == impl.VerdictYes && own.wrong {
					t.Errorf("%s says Yes of %s, %s, but not so in %s", name, policiesText(a), policiesText(b), shown(w))
				}
				found[fmt.Sprintf("%s %d %v", name, own.kind, own.wrong)]++
			}
		}
	}
	for _, what := range []string{"Equivalent 1 false", "Equivalent 2 true", "NeverAllows 1 false", "NeverAllows 2 true", "AllowsNoMore 1 false", "AllowsNoMore 2 true"} {
		if found[what] < 200 {
			t.Errorf("%s: found %v", what, found)
		}
	}
}

// plainValue is one of a kind, of which a ref is to what may not be there yet.
func plainValue(kind string) impl.Value {
	if strings.HasPrefix(kind, "set ") {
		return setValue()
	}
	if typ, ok := strings.CutPrefix(kind, "ref "); ok {
		return atomValue(refAtom(typ, "filled"))
	}
	return valueOf(map[string]string{"bool": "false", "num": "0", "text": `""`, "dec": "0.0000", "addr": "0.0.0.0/0", "time": "@0"}[kind])
}

// madeWhole adds a thing for each ref of the case that has none, with the fields that it must have; false where one has a Type that no thing has.
func (c wordCase) madeWhole(s impl.PolSchema) (toldWorld, bool) {
	w := toldWorld{schema: s, things: slices.Clone(c.things), request: c.request}
	values := slices.Clone(c.request.Values)
	for at := 0; at < len(w.things) || len(values) > 0; at++ {
		var refs []impl.Atom
		if at < len(w.things) {
			refs = slices.Clone(w.things[at].Parents)
			values = append(values, w.things[at].Values...)
		}
		for _, v := range values {
			refs = append(refs, v.Items...)
			refs = append(refs, v.Atom)
		}
		values = nil
		for _, ref := range refs {
			isThere := slices.ContainsFunc(w.things, func(t impl.Thing) bool { return t.Ref == ref })
			if ref.Kind != impl.RefAtom || isThere {
				continue
			}
			typ := slices.Index(thingNames(s), ref.Type)
			if typ < 0 {
				return w, false
			}
			t := impl.Thing{Ref: ref}
			for _, a := range s.Things[typ].Attrs {
				if a.Must {
					t.Names, t.Values = append(t.Names, a.Name), append(t.Values, plainValue(a.Kind))
				}
			}
			w.things = append(w.things, t)
		}
	}
	slices.SortFunc(w.things, func(a, b impl.Thing) int { return impl.CompareAtoms(a.Ref, b.Ref) })
	return w, true
}

// parentsFit says whether each Parent in the case has a Type that may be right above the thing.
func (c wordCase) parentsFit(s impl.PolSchema) bool {
	for _, t := range c.things {
		ups := s.Things[slices.Index(thingNames(s), t.Ref.Type)].Ups
		if slices.ContainsFunc(t.Parents, func(up impl.Atom) bool { return !slices.Contains(ups, up.Type) }) {
			return false
		}
	}
	return true
}

// A case that is told is decided as the verdict says. It is a good world as it is where all its refs are to its two things, and otherwise with the things to which they are, where the Parents may be right above.
func TestToldCasesAreGoodWorlds(t *testing.T) {
	d := yardDrawer{drawn()}
	found := map[string]int{}
	for range 600 {
		s, a, b := d.yard(1500)
		got := verdictsOf(s, a, b)
		for name, v := range map[string]impl.Verdict{"Equivalent": got.equivalent, "NeverAllows": got.never, "AllowsNoMore": got.noMore} {
			if v.Kind != impl.VerdictNo {
				continue
			}
			byA, byB := impl.Decide(v.Things, v.Request, a).Allow, impl.Decide(v.Things, v.Request, b).Allow
			wrong := map[string]bool{"Equivalent": byA != byB, "NeverAllows": byA, "AllowsNoMore": byA && !byB}
			if !wrong[name] {
				t.Errorf("%s of %s, %s tells a case that is not so: %s", name, policiesText(a), policiesText(b), shown(v))
			}
			c := wordCase{v.Things, v.Request}
			w, ok := c.madeWhole(s)
			if !ok || !c.parentsFit(s) {
				found["far"]++
				continue
			}
			if !impl.GoodWorld(s, w.things, w.request) {
				t.Errorf("%s tells no good world: %s", name, shown(w))
			}
			if len(w.things) == 2 {
				found["as it is"]++
			} else {
				found["made whole"]++
			}
			for _, policies := range [][]impl.Policy{a, b} {
				if got, want := impl.Decide(w.things, w.request, policies), impl.Decide(v.Things, v.Request, policies); !sameDecision(got, want) {
					t.Errorf("%s decide %s in the case, %s in the whole world %s", policiesText(policies), shown(want), shown(got), shown(w))
				}
			}
		}
	}
	if found["as it is"] < 100 || found["made whole"] < 100 || found["far"] < 20 {
		t.Errorf("found %v", found)
	}
}
