package tests

import (
	"reflect"
	"slices"
	"strings"
	"testing"

	"loop.example/g00036/impl"
)

// askAllOfPolicy holds all functions that take a policy against the words, whatever it is.
func askAllOfPolicy(t *testing.T, p impl.Policy) {
	t.Helper()
	if got, want := impl.GoodPolicy(p), goodPolicyByWords(p); got != want {
		t.Errorf("GoodPolicy(%.300s): got %v", shown(p), got)
	}
	if got, want := impl.PolicyText(p), policyTextByWords(p); got != want {
		t.Errorf("PolicyText(%.300s): got %.300q", shown(p), got)
	}
	askLink(t, p, "l", refAtom("A", "a"), refAtom("B", "b"))
}

// oddPolicyTexts are texts of every sort, well formed or not, and how often each of a few may come one behind the other.
func oddPolicyTexts() []string {
	texts := append(oddTexts(), wrongExprTexts()...)
	texts = append(texts, wrongPolicyLines()...)
	for _, g := range goodExprs() {
		texts = append(texts, g.text)
	}
	for _, g := range goodPolicies() {
		texts = append(texts, g.text, g.text+"\n")
	}
	pieces := []string{
		"(", ")", "()", "((", "!", "-", "--", "!-", "[", "]", "[]", ", ", "[1, ", "1 + ", "1 - ", "1 - -", "(1 + ", "1 + (", " + 1", "1 == ", "1 == (", " == 1", "1 || ", "1 || (", "1 && ", "if ", "if 1 then ", "if 1 then 1 else ", " then ", " else ", "if (", "principal", "principal.", ".a", ".", "principal has ", " has a", " is a", " like \"", " like \"\"", "\"", "\\", "\\\"", "\"\"", "::", "a::\"", "a::\"b\"", "@", "1", "1.", "/", " ", "\n", ";", "permit ", "permit \"p\" (", "?", "\x00", "\xff", "é",
	}
	for _, piece := range pieces {
		for _, bytes := range []int{50, 8999, 9000, 9001, 20000, 200000} {
			row := strings.Repeat(piece, bytes/len(piece))
			texts = append(texts, row)
			if bytes == 8999 {
				texts = append(texts, row+"1", "principal"+row[9:], "(principal"+row[10:], "\""+row[1:], "permit \"p\" (principal, action, resource) when "+row+";\n", "permit \"p\" (principal"+row+", action, resource);\n", "permit \""+row+"\" (principal, action, resource);\n")
			}
		}
	}
	for _, open := range []string{"(", "!(", "-(", "(1 + ", "if (", "if if ", "["} {
		ends := map[string]string{"(": ")", "!(": ")", "-(": ")", "(1 + ": ")", "if (": ") then 1 else 1", "if if ": " then 1 else 1 then 1 else 1", "[": "]"}
		for _, many := range []int{10, 11, 12, 13, 100, 300} {
			texts = append(texts, strings.Repeat(open, many)+"1"+strings.Repeat(ends[open], many))
		}
	}
	return texts
}

func TestPoliciesAnswerAtAnyText(t *testing.T) {
	for _, text := range oddPolicyTexts() {
		// Parting a text at its signs takes long where there are many.
		if len(text) <= 1000 || len(text) > 9000 {
			askExprText(t, text)
			if got := impl.ReadPolicies(text); !samePolicyRes(got, readPoliciesByWords(text)) {
				t.Errorf("ReadPolicies(%.300q): got %.300s", text, shown(got))
			}
		} else if e, ok := impl.ReadExpr(text); ok && impl.ExprText(e) != text || !ok && len(e) > 0 {
			t.Errorf("ReadExpr(%.300q): got %.300s, %v", text, shown(e), ok)
		}
		res := impl.ReadPolicies(text)
		if res.Err > 0 && len(res.Policies) > 0 || res.Err == 2 != (res.Line > 0) {
			t.Errorf("ReadPolicies(%.300q): got %.300s", text, shown(res))
		}
		askTextsInPolicies(t, text)
	}
}

// askTextsInPolicies puts a text in each place of an expression and of a policy that has one.
func askTextsInPolicies(t *testing.T, text string) {
	t.Helper()
	for kind := 0; kind <= 22; kind++ {
		for kids := range 4 {
			e := append([]impl.Expr{{Kind: kind, Text: text, Kids: kids}}, slices.Repeat(principalExpr(), kids)...)
			if got, want := impl.GoodExpr(e), goodExprByWords(e); got != want {
				t.Errorf("GoodExpr of kind %d with %.300q: got %v", kind, text, got)
			}
		}
	}
	for _, a := range []impl.Atom{textAtom(text), refAtom(text, text), {Kind: impl.NumAtom, Text: text}} {
		askExpr(t, litExpr(a))
		askExpr(t, setExpr(a, a))
	}
	for _, change := range []func(p *impl.Policy){
		func(p *impl.Policy) { p.Id = text },
		func(p *impl.Policy) { p.Principal = isHead(text) },
		func(p *impl.Policy) { p.Action = refHead(impl.HeadSame, text, text) },
		func(p *impl.Policy) { p.Action = refHead(impl.HeadIn, "A", text) },
		func(p *impl.Policy) { p.Resource.Type = text },
		func(p *impl.Policy) { p.Resource.Atom.Text = text },
		func(p *impl.Policy) { p.When[0].Text = text },
		func(p *impl.Policy) { p.When[1].Text = text },
	} {
		p := template()
		change(&p)
		askAllOfPolicy(t, p)
	}
	askLink(t, template(), text, refAtom("A", "a"), refAtom("A", "a"))
	askLink(t, template(), "l", refAtom(text, "a"), refAtom("A", "a"))
	askLink(t, template(), "l", refAtom("A", "a"), refAtom("A", text))
}

func TestPoliciesAnswerAtAnyNumbers(t *testing.T) {
	for _, num := range append(oddInts(), 5, 6, 7, 8, 9, 10, 11, 12, 13, 14, 15, 16, 17, 18, 22, 23) {
		for _, change := range []func(p *impl.Policy){
			func(p *impl.Policy) { p.Principal.Kind = num },
			func(p *impl.Policy) { p.Action.Kind = num },
			func(p *impl.Policy) { p.Resource.Kind = num },
			func(p *impl.Policy) { p.Action.Atom.Kind = num },
			func(p *impl.Policy) { p.Action.Atom.Num = num },
			func(p *impl.Policy) { p.Principal = impl.Head{Kind: num, Type: "User"} },
			func(p *impl.Policy) { p.Resource = refHead(num, "User", "a") },
			func(p *impl.Policy) { p.When[0].Kind = num },
			func(p *impl.Policy) { p.When[1].Kind = num },
			func(p *impl.Policy) { p.When[0].Kids = num },
			func(p *impl.Policy) { p.When[1].Kids = num },
			func(p *impl.Policy) { p.When[1] = impl.Expr{Kind: impl.ExprLit, Atom: numAtom(num)} },
			func(p *impl.Policy) { p.When[1] = impl.Expr{Kind: impl.ExprLit, Atom: timeAtom(num)} },
			func(p *impl.Policy) { p.When[1] = impl.Expr{Kind: impl.ExprSet, Kids: num} },
		} {
			p := template()
			change(&p)
			askAllOfPolicy(t, p)
			askExpr(t, p.When)
		}
		for other := -1; other <= 23; other++ {
			for many := range 4 {
				askExpr(t, append([]impl.Expr{{Kind: other, Kids: num}}, slices.Repeat(numExpr(num), many)...))
			}
		}
	}
}

func TestPoliciesAnswerAtAnyPolicy(t *testing.T) {
	for _, p := range badPolicies() {
		askAllOfPolicy(t, p)
	}
	for _, e := range badExprs() {
		p := template()
		p.When = e
		askAllOfPolicy(t, p)
		askExpr(t, e)
	}
	for _, a := range oddAtoms() {
		for kind := -1; kind <= 7; kind++ {
			p := template()
			p.Action = impl.Head{Kind: kind, Atom: a}
			askAllOfPolicy(t, p)
		}
	}
}

// policyArguments are all that the functions of the chapter take, but for texts.
type policyArguments struct {
	expr   []impl.Expr
	policy impl.Policy
}

func (a policyArguments) roomy() policyArguments {
	behind := impl.Expr{Kind: impl.ExprVar, Text: "action"}
	a.expr, a.policy.When = withRoom(a.expr, behind), withRoom(a.policy.When, behind)
	return a
}

func (a policyArguments) opened() policyArguments {
	a.expr, a.policy.When = opened(a.expr), opened(a.policy.When)
	return a
}

func (a policyArguments) scribbleOver() {
	scribble(a.expr, impl.Expr{Kind: -7})
	scribble(a.policy.When, impl.Expr{Kind: -7})
}

// policyAnswers are all that the functions of the chapter answer.
type policyAnswers struct {
	exprs    [][]impl.Expr
	policies [][]impl.Policy
	rest     []any
}

func (a policyArguments) ask() policyAnswers {
	text, line := impl.ExprText(a.expr), impl.PolicyText(a.policy)
	e, ok := impl.ReadExpr(text)
	linked, was := impl.LinkPolicy(a.policy, "l", refAtom("A", "a"), refAtom("B", "b"))
	read := impl.ReadPolicies(line + "\n")
	more := impl.ReadPolicies("permit \"a\" (principal, action, resource) when true;\n" + line + "\n" + strings.Replace(line, "\"p\"", "\"q\"", 1) + "\n")
	return policyAnswers{
		exprs:    [][]impl.Expr{e, linked.When},
		policies: [][]impl.Policy{read.Policies, more.Policies},
		rest:     []any{text, line, ok, was, linked.Id, linked.Principal, linked.Resource, read.Err, more.Err, impl.GoodExpr(a.expr), impl.GoodPolicy(a.policy)},
	}
}

// copied is the same answers in memory of their own.
func (r policyAnswers) copied() policyAnswers {
	out := policyAnswers{rest: r.rest}
	for _, e := range r.exprs {
		out.exprs = append(out.exprs, slices.Clone(e))
	}
	for _, list := range r.policies {
		own := slices.Clone(list)
		for i, p := range own {
			own[i].When = slices.Clone(p.When)
		}
		out.policies = append(out.policies, own)
	}
	return out
}

func (r policyAnswers) scribbleOver() {
	for _, e := range r.exprs {
		scribble(e, impl.Expr{Kind: -9})
	}
	for _, list := range r.policies {
		for _, p := range list {
			scribble(p.When, impl.Expr{Kind: -9})
		}
		scribble(list, impl.Policy{Id: "scribbled"})
	}
}

func manyPolicyArguments() []policyArguments {
	var all []policyArguments
	for _, g := range goodExprs() {
		p := template()
		p.Id, p.When = "p", g.expr
		all = append(all, policyArguments{g.expr, p})
	}
	for _, g := range goodPolicies()[:200] {
		all = append(all, policyArguments{numExpr(1), g.policy})
	}
	for _, e := range append(badExprs(), exprOfLength(9001), exprOfLength(20100)) {
		if len(e) < 2000 {
			p := template()
			p.When = e
			all = append(all, policyArguments{e, p})
		}
	}
	for _, p := range badPolicies()[:400] {
		all = append(all, policyArguments{p.When, p})
	}
	return all
}

func TestArgumentsOfPoliciesStayAsTheyWere(t *testing.T) {
	for i, told := range manyPolicyArguments() {
		a := told.roomy()
		before := a.opened()
		first := a.ask()
		if !reflect.DeepEqual(a.opened(), before) {
			t.Errorf("arguments %d changed", i)
		}
		first.scribbleOver()
		if !reflect.DeepEqual(a.opened(), before) {
			t.Errorf("arguments %d changed with their answers", i)
		}
	}
}

func TestAnswersOfPoliciesShareNothing(t *testing.T) {
	for i, told := range manyPolicyArguments() {
		a := told.roomy()
		kept := a.ask().copied()
		first, second := a.ask(), a.ask()
		first.scribbleOver()
		a.scribbleOver()
		if !reflect.DeepEqual(second.copied(), kept) {
			t.Errorf("answers %d changed with their arguments, or with other answers", i)
		}
	}
}

// Each list of policies that are read is written over, with the room behind it, while all others are looked at.
func TestListsOfReadPoliciesShareNothing(t *testing.T) {
	_, text := fullPolicies(impl.MaxPolicyText)
	for _, own := range []string{text, "permit \"a\" (principal, action, resource) when true;\npermit \"b\" (principal, action, resource) when true;\n"} {
		res := impl.ReadPolicies(own)
		before := shown(res)
		for _, p := range res.Policies {
			when := slices.Clone(p.When)
			scribble(p.When, impl.Expr{Kind: -7})
			copy(p.When, when)
		}
		policies := slices.Clone(res.Policies)
		scribble(res.Policies, impl.Policy{Id: "scribbled"})
		copy(res.Policies, policies)
		if shown(res) != before || len(res.Policies) < 2 {
			t.Errorf("lists of the policies of %.100q share memory", own)
		}
	}
}

func TestAnEmptyWhenIsTheNilOne(t *testing.T) {
	for _, when := range [][]impl.Expr{nil, {}, make([]impl.Expr, 0, 9), principalExpr()[:0]} {
		p := template()
		p.When = when
		if impl.GoodExpr(when) || impl.ExprText(when) != "" {
			t.Errorf("no nodes are an expression")
		}
		if got := impl.PolicyText(p); !impl.GoodPolicy(p) || got != "permit \"t\" (principal == ?, action in Action::\"read\", resource in ?);" {
			t.Errorf("a policy with an empty When is told as %q", got)
		}
		linked, ok := impl.LinkPolicy(p, "l", refAtom("A", "a"), refAtom("B", "b"))
		if !ok || len(linked.When) != 0 || cap(linked.When) != 0 {
			t.Errorf("a policy with an empty When: got %s, %v", shown(linked), ok)
		}
	}
}
