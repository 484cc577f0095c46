package tests

import (
	"regexp"
	"slices"

	"loop.example/g00036/impl"
)

// What the document says of chapter 13, worked out in other ways than the program's: expressions from their last node to the first, each part as the list of its nodes beside what it folds to; what is reached as texts, by as many rounds as there are things.

var unknownForm = regexp.MustCompile(`^(?:action|principal|resource|context(?:\.[a-zA-Z_][a-zA-Z0-9_]{0,29})?)$`)

func goodUnknownByWords(unknown []string) bool {
	isNone := func(word string) bool { return !unknownForm.MatchString(word) }
	return len(unknown) <= 30 && risesByWords(unknown) && !slices.ContainsFunc(unknown, isNone)
}

func goodPoliciesByWords(policies []impl.Policy) bool {
	var ids []string
	for _, p := range policies {
		if !goodPolicyByWords(p) {
			return false
		}
		ids = append(ids, p.Id)
	}
	return len(ids) <= 40 && risesByWords(ids)
}

func isContextVar(e []impl.Expr) bool {
	return len(e) == 1 && e[0].Kind == impl.ExprVar && e[0].Text == "context"
}

// knownByWords takes a good expression: what an ExprGet or ExprHas is of stands right behind it.
func knownByWords(e []impl.Expr, unknown []string) bool {
	for i, n := range e {
		var asked []string
		switch {
		case n.Kind == impl.ExprVar && n.Text != "context":
			asked = []string{n.Text}
		case (n.Kind == impl.ExprGet || n.Kind == impl.ExprHas) && isContextVar(e[i+1:i+2]):
			asked = []string{"context", "context." + n.Text}
		}
		if slices.ContainsFunc(asked, func(word string) bool { return slices.Contains(unknown, word) }) {
			return false
		}
	}
	return true
}

// testKindsByWords are those that the document tells as tests.
var testKindsByWords = []int{impl.ExprNot, impl.ExprAnd, impl.ExprOr, impl.ExprSame, impl.ExprLess, impl.ExprMost, impl.ExprIn, impl.ExprContains, impl.ExprWithin, impl.ExprLike, impl.ExprIs, impl.ExprHas}

// foldedSide is a part of an expression as it was, and as it is folded.
type foldedSide struct {
	own    []impl.Expr
	folded []impl.Expr
}

// litTextOf is the text of an ExprLit, and empty of all others.
func litTextOf(e []impl.Expr) string {
	if e[0].Kind != impl.ExprLit {
		return ""
	}
	return impl.AtomText(e[0].Atom)
}

// foldedWhole is what an expression that is not known folds to by what its kids do.
func foldedWhole(n impl.Expr, kids []foldedSide) []impl.Expr {
	whole := []impl.Expr{n}
	for _, kid := range kids {
		whole = append(whole, kid.folded...)
	}
	if len(kids) < 2 {
		return whole
	}
	taken := -1
	isTest := slices.Contains(testKindsByWords, kids[1].folded[0].Kind)
	switch first := litTextOf(kids[0].folded); {
	case n.Kind == impl.ExprAnd && first == "false", n.Kind == impl.ExprOr && first == "true":
		taken = 0
	case n.Kind == impl.ExprAnd && first == "true" && isTest, n.Kind == impl.ExprOr && first == "false" && isTest:
		taken = 1
	case n.Kind == impl.ExprIf && first == "true":
		taken = 1
	case n.Kind == impl.ExprIf && first == "false":
		taken = 2
	}
	if taken < 0 || isContextVar(kids[taken].own) {
		return whole
	}
	return kids[taken].folded
}

// foldKnown takes an expression that is known.
func (s wordScene) foldKnown(e []impl.Expr) []impl.Expr {
	text, fault := s.eval(e)
	if fault > 0 || formOf(text) == "set" {
		return e
	}
	return litExpr(valueOf(text).Atom)
}

// fold takes a good expression.
func (s wordScene) fold(e []impl.Expr, unknown []string) []impl.Expr {
	var stack []foldedSide
	for i := len(e) - 1; i >= 0; i-- {
		left := len(stack) - e[i].Kids
		kids := slices.Clone(stack[left:])
		slices.Reverse(kids)
		side := foldedSide{own: []impl.Expr{e[i]}}
		for _, kid := range kids {
			side.own = append(side.own, kid.own...)
		}
		if knownByWords(side.own, unknown) {
			side.folded = s.foldKnown(side.own)
		} else {
			side.folded = foldedWhole(e[i], kids)
		}
		stack = append(stack[:left], side)
	}
	return stack[0].folded
}

func foldByWords(list []impl.Thing, r impl.Request, e []impl.Expr, unknown []string) []impl.Expr {
	if !goodThingsByWords(list) || !goodRequestByWords(r) || !goodExprByWords(e) || !goodUnknownByWords(unknown) {
		return nil
	}
	return wordScene{list, r}.fold(e, unknown)
}

// residualByWords asks each policy for what rules it out first, and makes what is left of it then.
func residualByWords(list []impl.Thing, r impl.Request, policies []impl.Policy, unknown []string) []impl.Policy {
	if !goodThingsByWords(list) || !goodRequestByWords(r) || !goodPoliciesByWords(policies) || !goodUnknownByWords(unknown) {
		return nil
	}
	var left []impl.Policy
	refs := map[string]impl.Atom{"principal": r.Principal, "action": r.Action, "resource": r.Resource}
	for _, p := range policies {
		rest := impl.Policy{Id: p.Id, Permit: p.Permit}
		out := false
		for word, heads := range map[string][2]*impl.Head{"principal": {&p.Principal, &rest.Principal}, "action": {&p.Action, &rest.Action}, "resource": {&p.Resource, &rest.Resource}} {
			if slices.Contains(unknown, word) {
				*heads[1] = *heads[0]
				continue
			}
			*heads[1] = anyHead()
			out = out || !headMatchesByWords(list, *heads[0], refs[word])
		}
		if len(p.When) > 0 {
			rest.When = wordScene{list, r}.fold(p.When, unknown)
			switch litTextOf(rest.When) {
			case "true":
				rest.When = nil
			case "false":
				out = true
			}
		}
		if !out {
			left = append(left, rest)
		}
	}
	return left
}

func slicePoliciesByWords(list []impl.Thing, r impl.Request, policies []impl.Policy) []impl.Policy {
	if !goodThingsByWords(list) || !goodRequestByWords(r) || !goodPoliciesByWords(policies) {
		return nil
	}
	var out []impl.Policy
	for _, p := range policies {
		if headMatchesByWords(list, p.Principal, r.Principal) && headMatchesByWords(list, p.Action, r.Action) && headMatchesByWords(list, p.Resource, r.Resource) {
			out = append(out, p)
		}
	}
	return out
}

// reachedTexts are those of all refs that are reached, whether these are in the list or not.
func reachedTexts(list []impl.Thing, r impl.Request, policies []impl.Policy) map[string]bool {
	found := map[string]bool{}
	add := func(atoms ...impl.Atom) {
		for _, a := range atoms {
			found[impl.AtomText(a)] = true
		}
	}
	addValues := func(values []impl.Value) {
		for _, v := range values {
			add(append(slices.Clone(v.Items), v.Atom)...)
		}
	}
	add(r.Principal, r.Action, r.Resource)
	addValues(r.Values)
	for _, p := range policies {
		for _, n := range p.When {
			add(n.Atom)
		}
	}
	for range list {
		for _, t := range list {
			if found[impl.AtomText(t.Ref)] {
				add(t.Parents...)
				addValues(t.Values)
			}
		}
	}
	return found
}

func sliceThingsByWords(list []impl.Thing, r impl.Request, policies []impl.Policy) []impl.Thing {
	if !goodThingsByWords(list) || !goodRequestByWords(r) || !goodPoliciesByWords(policies) {
		return nil
	}
	found := reachedTexts(list, r, policies)
	return slices.DeleteFunc(slices.Clone(list), func(t impl.Thing) bool { return !found[impl.AtomText(t.Ref)] })
}

func sameThing(a impl.Thing, b impl.Thing) bool {
	return a.Ref == b.Ref && slices.Equal(a.Parents, b.Parents) && slices.Equal(a.Names, b.Names) && slices.EqualFunc(a.Values, b.Values, sameValue)
}
