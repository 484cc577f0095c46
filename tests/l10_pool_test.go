package tests

import (
	"math"
	"math/rand"
	"slices"
	"strconv"
	"strings"

	"loop.example/g00036/impl"
)

// toldExpr is an expression and the text that the document gives it.
type toldExpr struct {
	expr []impl.Expr
	text string
}

// toldPolicy is a policy and its line.
type toldPolicy struct {
	policy impl.Policy
	text   string
}

// exprOf is a node, with as many Kids as there are, and those behind it.
func exprOf(kind int, text string, kids ...[]impl.Expr) []impl.Expr {
	return append([]impl.Expr{{Kind: kind, Text: text, Kids: len(kids)}}, slices.Concat(kids...)...)
}

func litExpr(a impl.Atom) []impl.Expr {
	return []impl.Expr{{Kind: impl.ExprLit, Atom: a}}
}

func numExpr(num int) []impl.Expr {
	return litExpr(numAtom(num))
}

func varExpr(name string) []impl.Expr {
	return exprOf(impl.ExprVar, name)
}

func getExpr(kid []impl.Expr, name string) []impl.Expr {
	return exprOf(impl.ExprGet, name, kid)
}

func notExpr(kid []impl.Expr) []impl.Expr {
	return exprOf(impl.ExprNot, "", kid)
}

func negExpr(kid []impl.Expr) []impl.Expr {
	return exprOf(impl.ExprNeg, "", kid)
}

func ifExpr(asked []impl.Expr, then []impl.Expr, otherwise []impl.Expr) []impl.Expr {
	return exprOf(impl.ExprIf, "", asked, then, otherwise)
}

func setExpr(atoms ...impl.Atom) []impl.Expr {
	var kids [][]impl.Expr
	for _, a := range atoms {
		kids = append(kids, litExpr(a))
	}
	return exprOf(impl.ExprSet, "", kids...)
}

// principalExpr is the shortest way to an expression of any sort.
func principalExpr() []impl.Expr {
	return varExpr("principal")
}

// pairKinds are the kinds of two sides, with what stands between these.
func pairKinds() map[int]string {
	return map[int]string{
		impl.ExprAnd: "&&", impl.ExprOr: "||", impl.ExprSame: "==", impl.ExprLess: "<", impl.ExprMost: "<=", impl.ExprPlus: "+", impl.ExprMinus: "-", impl.ExprTimes: "*",
		impl.ExprIn: "in", impl.ExprContains: "contains", impl.ExprWithin: "within",
	}
}

// levelSamples are expressions of each level, at the place of its number, each with its text.
func levelSamples() [][]toldExpr {
	p := principalExpr()
	samples := make([][]toldExpr, 10)
	add := func(level int, expr []impl.Expr, text string) {
		samples[level] = append(samples[level], toldExpr{expr, text})
	}
	add(1, ifExpr(p, numExpr(1), numExpr(-2)), "if principal then 1 else -2")
	add(2, exprOf(impl.ExprOr, "", p, numExpr(3)), "principal || 3")
	add(3, exprOf(impl.ExprAnd, "", p, numExpr(3)), "principal && 3")
	for _, kind := range []int{impl.ExprSame, impl.ExprLess, impl.ExprMost, impl.ExprIn, impl.ExprContains, impl.ExprWithin} {
		add(4, exprOf(kind, "", numExpr(-3), p), "-3 "+pairKinds()[kind]+" principal")
	}
	add(4, exprOf(impl.ExprLike, "a*", p), "principal like \"a*\"")
	add(4, exprOf(impl.ExprIs, "User", p), "principal is User")
	add(4, exprOf(impl.ExprHas, "has", p), "principal has has")
	add(5, exprOf(impl.ExprPlus, "", p, numExpr(-4)), "principal + -4")
	add(5, exprOf(impl.ExprMinus, "", p, numExpr(-4)), "principal - -4")
	add(6, exprOf(impl.ExprTimes, "", numExpr(4), p), "4 * principal")
	add(7, notExpr(p), "!principal")
	add(7, negExpr(p), "-principal")
	add(7, negExpr(numExpr(5)), "-(5)")
	add(8, getExpr(p, "a"), "principal.a")
	add(8, getExpr(numExpr(-5), "a"), "(-5).a")
	add(9, numExpr(5), "5")
	add(9, numExpr(-5), "-5")
	add(9, litExpr(textAtom("principal")), "\"principal\"")
	add(9, setExpr(), "[]")
	add(9, setExpr(numAtom(-1), textAtom("]")), "[-1, \"]\"]")
	add(9, p, "principal")
	return samples
}

// goodExprs are expressions of every sort, each with its text.
func goodExprs() []toldExpr {
	p, one := principalExpr(), numExpr(1)
	long, name := strings.Repeat("*", impl.MaxText), longName("n")
	lit := func(text string) []impl.Expr { return litExpr(textAtom(text)) }
	or := func(a []impl.Expr, b []impl.Expr) []impl.Expr { return exprOf(impl.ExprOr, "", a, b) }
	and := func(a []impl.Expr, b []impl.Expr) []impl.Expr { return exprOf(impl.ExprAnd, "", a, b) }
	same := func(a []impl.Expr, b []impl.Expr) []impl.Expr { return exprOf(impl.ExprSame, "", a, b) }
	plus := func(a []impl.Expr, b []impl.Expr) []impl.Expr { return exprOf(impl.ExprPlus, "", a, b) }
	minus := func(a []impl.Expr, b []impl.Expr) []impl.Expr { return exprOf(impl.ExprMinus, "", a, b) }
	times := func(a []impl.Expr, b []impl.Expr) []impl.Expr { return exprOf(impl.ExprTimes, "", a, b) }
	all := []toldExpr{
		{varExpr("principal"), "principal"},
		{varExpr("action"), "action"},
		{varExpr("resource"), "resource"},
		{varExpr("context"), "context"},
		{lit("principal"), "\"principal\""},
		{litExpr(refAtom("principal", "a")), "principal::\"a\""},
		{litExpr(refAtom("if", "then")), "if::\"then\""},
		{ifExpr(litExpr(refAtom("if", " then ")), litExpr(refAtom("then", " else ")), litExpr(refAtom("else", "if "))), "if if::\" then \" then then::\" else \" else else::\"if \""},
		{exprOf(impl.ExprIn, "", litExpr(refAtom("in", " in ")), litExpr(refAtom("in", "\" in \\"))), "in::\" in \" in in::\"\\\" in \\\\\""},
		{setExpr(), "[]"},
		{setExpr(numAtom(1)), "[1]"},
		{setExpr(numAtom(2), numAtom(-1), numAtom(2), textAtom(", "), refAtom("context", "[1]"), timeAtom(-3), addrAtom(10<<24, 8), decAtom(-5), boolAtom(1)), "[2, -1, 2, \", \", context::\"[1]\", @-3, 10.0.0.0/8, -0.0005, true]"},
		{setExpr(slices.Repeat([]impl.Atom{numAtom(7)}, 10)...), "[7, 7, 7, 7, 7, 7, 7, 7, 7, 7]"},
		{getExpr(p, "a"), "principal.a"},
		{getExpr(getExpr(getExpr(varExpr("context"), "principal"), "if"), "_1"), "context.principal.if._1"},
		{getExpr(p, name), "principal." + name},
		{getExpr(one, "a"), "(1).a"},
		{getExpr(lit("principal"), "a"), "(\"principal\").a"},
		{getExpr(litExpr(refAtom("User", "a")), "a"), "(User::\"a\").a"},
		{getExpr(litExpr(addrAtom(0, 0)), "a"), "(0.0.0.0/0).a"},
		{getExpr(setExpr(), "a"), "([]).a"},
		{getExpr(getExpr(setExpr(), "a"), "b"), "([]).a.b"},
		{getExpr(notExpr(p), "a"), "(!principal).a"},
		{notExpr(getExpr(p, "a")), "!principal.a"},
		{negExpr(getExpr(one, "a")), "-(1).a"},
		{getExpr(negExpr(one), "a"), "(-(1)).a"},
		{negExpr(getExpr(p, "a")), "-principal.a"},
		{negExpr(one), "-(1)"},
		{negExpr(numExpr(0)), "-(0)"},
		{negExpr(numExpr(-1)), "-(-1)"},
		{negExpr(numExpr(math.MinInt)), "-(-9223372036854775808)"},
		{negExpr(litExpr(decAtom(-15000))), "-(-1.5000)"},
		{negExpr(litExpr(boolAtom(1))), "-(true)"},
		{negExpr(lit("a")), "-(\"a\")"},
		{negExpr(litExpr(timeAtom(5))), "-(@5)"},
		{negExpr(litExpr(addrAtom(0, 0))), "-(0.0.0.0/0)"},
		{negExpr(litExpr(refAtom("User", "a"))), "-(User::\"a\")"},
		{negExpr(setExpr()), "-[]"},
		{negExpr(setExpr(numAtom(-1))), "-[-1]"},
		{negExpr(p), "-principal"},
		{negExpr(negExpr(one)), "--(1)"},
		{negExpr(negExpr(numExpr(-1))), "--(-1)"},
		{negExpr(negExpr(negExpr(p))), "---principal"},
		{notExpr(one), "!1"},
		{notExpr(numExpr(-1)), "!-1"},
		{notExpr(negExpr(one)), "!-(1)"},
		{notExpr(negExpr(p)), "!-principal"},
		{notExpr(notExpr(p)), "!!principal"},
		{negExpr(notExpr(p)), "-!principal"},
		{negExpr(notExpr(numExpr(-1))), "-!-1"},
		{negExpr(plus(one, one)), "-(1 + 1)"},
		{minus(one, numExpr(-1)), "1 - -1"},
		{minus(one, negExpr(one)), "1 - -(1)"},
		{minus(numExpr(-1), negExpr(numExpr(-1))), "-1 - -(-1)"},
		{minus(negExpr(p), negExpr(p)), "-principal - -principal"},
		{minus(minus(one, one), one), "1 - 1 - 1"},
		{minus(one, minus(one, one)), "1 - (1 - 1)"},
		{minus(plus(one, one), one), "1 + 1 - 1"},
		{plus(one, times(one, one)), "1 + 1 * 1"},
		{times(plus(one, one), one), "(1 + 1) * 1"},
		{times(times(one, one), one), "1 * 1 * 1"},
		{times(one, times(one, one)), "1 * (1 * 1)"},
		{or(and(p, p), and(p, p)), "principal && principal || principal && principal"},
		{and(or(p, p), or(p, p)), "(principal || principal) && (principal || principal)"},
		{or(or(p, p), p), "principal || principal || principal"},
		{or(p, or(p, p)), "principal || (principal || principal)"},
		{and(p, and(p, p)), "principal && (principal && principal)"},
		{same(same(one, one), one), "(1 == 1) == 1"},
		{same(one, same(one, one)), "1 == (1 == 1)"},
		{same(plus(one, one), or(one, one)), "1 + 1 == (1 || 1)"},
		{exprOf(impl.ExprHas, name, p), "principal has " + name},
		{exprOf(impl.ExprHas, "in", exprOf(impl.ExprHas, "has", p)), "(principal has has) has in"},
		{exprOf(impl.ExprIn, "", exprOf(impl.ExprHas, "in", p), setExpr()), "(principal has in) in []"},
		{exprOf(impl.ExprHas, "a", one), "1 has a"},
		{exprOf(impl.ExprHas, "c", getExpr(getExpr(p, "a"), "b")), "principal.a.b has c"},
		{exprOf(impl.ExprIs, "is", p), "principal is is"},
		{exprOf(impl.ExprIs, "true", plus(one, one)), "1 + 1 is true"},
		{or(exprOf(impl.ExprIs, "if", p), exprOf(impl.ExprHas, "then", p)), "principal is if || principal has then"},
		{ifExpr(exprOf(impl.ExprHas, "then", p), exprOf(impl.ExprIs, "else", p), exprOf(impl.ExprHas, "if", p)), "if principal has then then principal is else else principal has if"},
		{exprOf(impl.ExprLike, "", p), "principal like \"\""},
		{exprOf(impl.ExprLike, long, p), "principal like \"" + long + "\""},
		{exprOf(impl.ExprLike, "\\*\\\\\"", p), "principal like \"\\\\*\\\\\\\\\\\"\""},
		{exprOf(impl.ExprLike, strings.Repeat("\\\\", impl.MaxText/2), p), "principal like \"" + strings.Repeat("\\", impl.MaxText*2) + "\""},
		{exprOf(impl.ExprLike, " && ", lit(" || ")), "\" || \" like \" && \""},
		{exprOf(impl.ExprSame, "", exprOf(impl.ExprLike, "a", p), litExpr(boolAtom(1))), "(principal like \"a\") == true"},
		{ifExpr(ifExpr(one, one, one), ifExpr(p, p, p), ifExpr(one, p, one)), "if if 1 then 1 else 1 then if principal then principal else principal else if 1 then principal else 1"},
		{ifExpr(one, one, or(one, one)), "if 1 then 1 else 1 || 1"},
		{or(ifExpr(one, one, one), one), "(if 1 then 1 else 1) || 1"},
		{or(one, ifExpr(one, one, one)), "1 || (if 1 then 1 else 1)"},
		{ifExpr(or(one, one), or(one, one), one), "if 1 || 1 then 1 || 1 else 1"},
		{exprOf(impl.ExprWithin, "", litExpr(addrAtom(10<<24, 16)), litExpr(addrAtom(10<<24, 8))), "10.0.0.0/16 within 10.0.0.0/8"},
		{exprOf(impl.ExprContains, "", setExpr(numAtom(1)), one), "[1] contains 1"},
	}
	for _, a := range goodAtoms() {
		all = append(all, toldExpr{litExpr(a.atom), a.text}, toldExpr{setExpr(a.atom, a.atom), "[" + a.text + ", " + a.text + "]"}, toldExpr{negExpr(litExpr(a.atom)), "-(" + a.text + ")"}, toldExpr{notExpr(litExpr(a.atom)), "!" + a.text})
	}
	for _, level := range levelSamples() {
		all = append(all, level...)
	}
	return all
}

// deepExprs are expressions with so many nodes within each other.
func deepExprs(within int) [][]impl.Expr {
	one := numExpr(1)
	grown := func(leaf []impl.Expr, already int, grow func(kid []impl.Expr) []impl.Expr) []impl.Expr {
		for range within - already {
			leaf = grow(leaf)
		}
		return leaf
	}
	return [][]impl.Expr{
		grown(one, 1, notExpr),
		grown(one, 1, negExpr),
		grown(principalExpr(), 1, func(kid []impl.Expr) []impl.Expr { return getExpr(kid, "a") }),
		grown(one, 1, func(kid []impl.Expr) []impl.Expr { return exprOf(impl.ExprOr, "", kid, one) }),
		grown(one, 1, func(kid []impl.Expr) []impl.Expr { return exprOf(impl.ExprOr, "", one, kid) }),
		grown(one, 1, func(kid []impl.Expr) []impl.Expr { return exprOf(impl.ExprLess, "", kid, one) }),
		grown(one, 1, func(kid []impl.Expr) []impl.Expr { return exprOf(impl.ExprHas, "a", kid) }),
		grown(one, 1, func(kid []impl.Expr) []impl.Expr { return ifExpr(kid, one, one) }),
		grown(one, 1, func(kid []impl.Expr) []impl.Expr { return ifExpr(one, kid, one) }),
		grown(one, 1, func(kid []impl.Expr) []impl.Expr { return ifExpr(one, one, kid) }),
		grown(setExpr(numAtom(1)), 2, notExpr),
	}
}

// broadExpr is an expression of so many nodes, few of them within each other.
func broadExpr(nodes int) []impl.Expr {
	switch {
	case nodes == 1:
		return numExpr(1)
	case nodes%2 == 0:
		return notExpr(broadExpr(nodes - 1))
	}
	first := (nodes-1)/4*2 + 1
	return exprOf(impl.ExprAnd, "", broadExpr(first), broadExpr(nodes-1-first))
}

// broadSets is an expression of so many nodes, 6 or more, most of them in sets.
func broadSets(nodes int) []impl.Expr {
	e := setExpr(countedAtoms(min(nodes-1, 10))...)
	for len(e)+2 <= nodes {
		e = exprOf(impl.ExprSame, "", e, setExpr(countedAtoms(min(nodes-len(e)-2, 10))...))
	}
	if len(e) < nodes {
		e = notExpr(e)
	}
	return e
}

// filledAtom is an atom whose text has so many bytes, 2 to 402.
func filledAtom(bytes int) impl.Atom {
	quotes := max(0, bytes-2-impl.MaxText)
	return textAtom(strings.Repeat("\"", quotes) + strings.Repeat("x", bytes-2-2*quotes))
}

// exprOfLength is an expression whose text has so many bytes, 2 to 20100.
func exprOfLength(length int) []impl.Expr {
	build := func(atoms []impl.Atom) []impl.Expr {
		e := litExpr(atoms[0])
		for rest := atoms[1:]; len(rest) > 0; rest = rest[min(10, len(rest)):] {
			e = exprOf(impl.ExprOr, "", e, setExpr(rest[:min(10, len(rest))]...))
		}
		return e
	}
	for many := 0; ; many++ {
		atoms := append(slices.Repeat([]impl.Atom{filledAtom(402)}, many), filledAtom(2))
		gap := length - len(exprTextByWords(build(atoms)))
		if gap > 400 {
			continue
		}
		// An atom more may be too much even if it is the shortest one.
		atoms[many] = filledAtom(2 + max(gap, 0))
		if gap < 0 {
			atoms[0] = filledAtom(402 + gap)
		}
		return build(atoms)
	}
}

// smallNodes are a few nodes of each kind, by how many kids they have.
func smallNodes() [4][]impl.Expr {
	var out [4][]impl.Expr
	out[0] = []impl.Expr{{Kind: impl.ExprLit, Atom: numAtom(5)}, {Kind: impl.ExprLit, Atom: numAtom(-5)}, {Kind: impl.ExprVar, Text: "principal"}, {Kind: impl.ExprSet}}
	out[1] = []impl.Expr{{Kind: impl.ExprGet, Text: "in"}, {Kind: impl.ExprHas, Text: "then"}, {Kind: impl.ExprNot}, {Kind: impl.ExprNeg}, {Kind: impl.ExprLike, Text: " "}, {Kind: impl.ExprIs, Text: "has"}}
	for kind := impl.ExprAnd; kind <= impl.ExprWithin; kind++ {
		if kind != impl.ExprIf {
			out[2] = append(out[2], impl.Expr{Kind: kind})
		}
	}
	out[3] = []impl.Expr{{Kind: impl.ExprIf}}
	return out
}

// smallExprs are all expressions of so many nodes, these out of few. Of the kinds with two sides there are as many as told.
func smallExprs(nodes int, pairs []impl.Expr) [][]impl.Expr {
	own := smallNodes()
	own[2] = pairs
	bySize := [][][]impl.Expr{nil}
	for size := 1; size <= nodes; size++ {
		var all [][]impl.Expr
		if size == 2 {
			all = append(all, setExpr(numAtom(5)))
		}
		for kids, list := range own {
			for _, n := range list {
				n.Kids = kids
				for _, behind := range rowsOfExprs(bySize, kids, size-1) {
					all = append(all, append([]impl.Expr{n}, behind...))
				}
			}
		}
		bySize = append(bySize, all)
	}
	return bySize[nodes]
}

// rowsOfExprs are all rows of so many expressions that have so many nodes together.
func rowsOfExprs(bySize [][][]impl.Expr, many int, nodes int) [][]impl.Expr {
	if many == 0 {
		if nodes == 0 {
			return [][]impl.Expr{nil}
		}
		return nil
	}
	var rows [][]impl.Expr
	for size := 1; size <= nodes && size < len(bySize); size++ {
		for _, behind := range rowsOfExprs(bySize, many-1, nodes-size) {
			for _, first := range bySize[size] {
				rows = append(rows, slices.Concat(first, behind))
			}
		}
	}
	return rows
}

// drawnExpr draws one tree with at most so many nodes within each other; it may have too many nodes.
func drawnExpr(from *rand.Rand, atoms []told, within int) []impl.Expr {
	if within == 1 || from.Intn(5) == 0 {
		if from.Intn(2) == 0 {
			return litExpr(oneOf(from, atoms).atom)
		}
		return varExpr(oneOf(from, []string{"principal", "action", "resource", "context"}))
	}
	names := []string{"a", "in", "if", "then", "else", "has", "principal", "_9", longName("z")}
	kid := func() []impl.Expr { return drawnExpr(from, atoms, within-1) }
	switch from.Intn(10) {
	case 0:
		var list []impl.Atom
		for range from.Intn(4) {
			list = append(list, oneOf(from, atoms).atom)
		}
		return setExpr(list...)
	case 1:
		return ifExpr(kid(), kid(), kid())
	case 2:
		return exprOf(impl.ExprLike, oneOf(from, []string{"", "*", "\\*\"", " || ", "\\\\"}), kid())
	case 3, 4, 5:
		return exprOf(oneOf(from, []int{impl.ExprGet, impl.ExprGet, impl.ExprHas, impl.ExprIs}), oneOf(from, names), kid())
	case 6:
		return exprOf(oneOf(from, []int{impl.ExprNot, impl.ExprNeg}), "", kid())
	}
	return exprOf(oneOf(from, smallNodes()[2]).Kind, "", kid(), kid())
}

// badPatterns are no patterns: too long, of a byte that is not printed, or with a `\` that has nothing to do.
func badPatterns() []string {
	return []string{strings.Repeat("x", impl.MaxText+1), strings.Repeat("*", impl.MaxText+1), "\n", "a\x1f", "\x7f", "é", "\xff", "\x00", "\\", "a\\", "\\a", "\\\\\\", "\\\"", "\\ *"}
}

// kindSamples are a good expression for each kind, which is that of its first node.
func kindSamples() [][]impl.Expr {
	p := principalExpr()
	all := [][]impl.Expr{numExpr(1), setExpr(numAtom(1), numAtom(2)), p, getExpr(p, "a"), exprOf(impl.ExprHas, "a", p), notExpr(p), negExpr(p)}
	for kind := impl.ExprAnd; kind <= impl.ExprWithin; kind++ {
		if kind == impl.ExprIf {
			all = append(all, ifExpr(p, p, p))
		} else {
			all = append(all, exprOf(kind, "", p, p))
		}
	}
	return append(all, exprOf(impl.ExprLike, "a", p), exprOf(impl.ExprIs, "a", p))
}

// kidsAmiss are expressions in which a node of each kind, but for sets, has a kid too few or too many, the nodes behind it being as many as it tells.
func kidsAmiss() [][]impl.Expr {
	var bad [][]impl.Expr
	for _, e := range kindSamples() {
		n := e[0]
		if n.Kind == impl.ExprSet {
			continue
		}
		for _, kids := range []int{n.Kids - 1, n.Kids + 1, n.Kids + 2, 10} {
			own := n
			own.Kids = kids
			bad = append(bad, append([]impl.Expr{own}, slices.Repeat(principalExpr(), max(kids, 0))...))
		}
	}
	return bad
}

// badExprs are no good expressions.
func badExprs() [][]impl.Expr {
	p := principalExpr()
	bad := append(kidsAmiss(), nil, []impl.Expr{}, []impl.Expr{{}}, slices.Concat(p, p), make([]impl.Expr, 100000), broadExpr(61), broadSets(61), broadExpr(1000), setExpr(countedAtoms(11)...))
	bad = append(bad, deepExprs(13)...)
	for _, e := range kindSamples() {
		bad = append(bad, append(slices.Clone(e), numExpr(1)...), slices.Concat(e, e))
		if len(e) > 1 {
			bad = append(bad, e[:len(e)-1])
		}
		for _, change := range []func(n *impl.Expr){
			func(n *impl.Expr) { n.Kind = 0 },
			func(n *impl.Expr) { n.Kind = 22 },
			func(n *impl.Expr) { n.Kind = -n.Kind },
			func(n *impl.Expr) { n.Kind += 1 << 32 },
			func(n *impl.Expr) { n.Text += " " },
			func(n *impl.Expr) { n.Text += "\x00" },
			func(n *impl.Expr) { n.Atom.Num += 1 << 62; n.Atom.Type += "T" },
			func(n *impl.Expr) { n.Atom.Text += "a" },
			func(n *impl.Expr) { n.Atom.Kind -= 2 },
			func(n *impl.Expr) { n.Kids = -1 },
			func(n *impl.Expr) { n.Kids = math.MaxInt },
			func(n *impl.Expr) { n.Kids = math.MinInt },
		} {
			own := slices.Clone(e)
			change(&own[0])
			// A pattern may have a blank behind it.
			if own[0].Text != "a " || own[0].Kind != impl.ExprLike {
				bad = append(bad, own, notExpr(own), exprOf(impl.ExprSet, "", own))
			}
		}
	}
	for _, word := range badWords() {
		bad = append(bad, getExpr(p, word), exprOf(impl.ExprHas, word, p), exprOf(impl.ExprIs, word, p), varExpr(word))
	}
	for _, word := range []string{"Principal", "principa", "principals", "principal ", " action", "user", "true", "if", "context.a", "resource\n"} {
		bad = append(bad, varExpr(word))
	}
	for _, pattern := range badPatterns() {
		bad = append(bad, exprOf(impl.ExprLike, pattern, p))
	}
	for _, a := range badAtoms() {
		bad = append(bad, litExpr(a), setExpr(a), setExpr(numAtom(1), a), negExpr(litExpr(a)))
	}
	for _, e := range kindSamples() {
		if e[0].Kind != impl.ExprLit {
			bad = append(bad, exprOf(impl.ExprSet, "", e), exprOf(impl.ExprSet, "", numExpr(1), e), exprOf(impl.ExprSet, "", e, numExpr(1)))
		}
	}
	return bad
}

// wrongExprTexts are texts of no expression.
func wrongExprTexts() []string {
	texts := []string{
		"", " ", "a", "_", "principalx", "principals", "princip", "Principal", "actio", "actions", "resource1", "context_", "users.a", "truex", "tru", "falsey", "iff", "if", "then", "else", "in", "has",
		"if principal", "if principal then 1", "if principal then 1 else", "if principal then 1 else ", "if principal else 1 then 2", "if principal then 1 else 2 else 3", "ifprincipal then 1 else 2", "if  principal then 1 else 2", "if principal  then 1 else 2", "if principal then1 else 2", "if principal then 1 else 2 then 3", "principal then 1", "1 else 2", "then 1 else 2", "if then then 1 else 2", "if principal then else else 2", "if (principal) then 1 else 2", "if principal then (1) else 2", "if principal then 1 else (2)", "(if principal then 1 else 2)", "if (if 1 then 1 else 1) then 1 else 1",
		"if 1 then 1 else 1 1", "1 || if 1 then 1 else 1", "1 + if 1 then 1 else 1", "!if 1 then 1 else 1", "-if 1 then 1 else 1", "[if 1 then 1 else 1]",
		"(1)", "((1))", "()", "(", ")", "(1", "1)", "(principal)", "(principal", "principal)", "((principal).a)", "(principal).a", "((principal.a)).b", "(principal.a).b", "(1 + 2)", "(1 + 2) + 3", "1 + (2)", "(1) + 2", "1 + ((2 + 3))", "1 + (2 * 3)", "(1 * 2) * 3", "!(!principal)", "!(principal)", "!(principal.a)", "-(principal)", "-(-(1))", "-([])", "-(principal.a)", "((1 + 2) * 3)", "[(1)]", "([])", "(1 + 2) * 3)", "((1 + 2) * 3",
		"1+2", "1 +2", "1+ 2", "1  + 2", "1 +  2", " 1 + 2", "1 + 2 ", "1 + ", " + 1", "1 +", "+ 1", "1 + + 2", "1 - - 2", "1 -- 2", "1 --2", "--1", "-  1", "- 1", "- principal", "! principal", "!-", "-", "!", "-)", "1 -2", "1 - --2", "1 ! 2", "1 ; 2", "1 , 2", "1 = 2", "1 === 2", "1 => 2", "1 > 2", "1 >= 2", "1 != 2", "1 <=2", "1 =< 2", "1 <  = 2", "1 | 2", "1 & 2", "1 and 2", "1 or 2", "1 / 2", "1 ** 2",
		"1 < 2 < 3", "1 == 2 == 3", "1 in 2 in 3", "principal has a has b", "principal is A is B", "principal like \"a\" like \"b\"", "principal is A == true", "1 == principal has a", "1 == principal like \"a\"", "1 < 2 == true", "principal has a in []",
		"principal has", "principal has ", "principal has  a", "principal has \"a\"", "principal has 1", "principal has a.b", "principal has a b", "principal has (a)", "principal hasa", "principalhas a", "principal is", "principal is ", "principal is 9", "principal is \"A\"", "principal is A::\"b\"", "principal is A B", "principal isA",
		"principal like", "principal like ", "principal like a", "principal like 1", "principal like User::\"a\"", "principal like \"a", "principal like a\"", "principal like \"a\"\"", "principal like \"\\a\"", "principal like \"\\\\\"", "principal like \"\\\\a\"", "principal like  \"a\"", "principal like\"a\"", "principal like (\"a\")", "principal like principal", "principal like \"a\" ", "principal like \"\x1f\"", "principal like \"" + strings.Repeat("x", 201) + "\"",
		"principal.", ".a", "principal..a", "principal.a.", "principal .a", "principal. a", "principal.1", "principal.1a", "principal.a-b", "principal.\"a\"", "principal.a b", "principal.é", "1.a", "-5.x", "-(5).", "5.", "\"a\".b", "[].a", "User::\"a\".b", "!principal.", "principal." + longName("n") + "n", "principal has " + longName("n") + "n", "principal is " + longName("n") + "n",
		"[", "]", "[1", "1]", "[1,2]", "[1 ,2]", "[1,  2]", "[1, 2, ]", "[, 1]", "[,]", "[ ]", "[ 1]", "[1 ]", "[1, principal]", "[principal]", "[[]]", "[1, []]", "[-(1)]", "[!true]", "[1 + 1]", "[1]]", "[[1]", "[1, 2", "[1; 2]", "[0, 1, 2, 3, 4, 5, 6, 7, 8, 9, 10]",
		"01", "-01", "-0", "+1", "1.5", "1.50000", "@", "@+1", "@--1", "-@1", "1.2.3", "1.2.3.4", "1.2.3.4/33", "10.0.0.1/8", "-10.0.0.0/8", "\"", "\"a", "a\"", "\"\\a\"", "\"\\\"", "\"a\"b\"", "\"\n\"", "User::", "User::a", "User::\"\"", "User:\"a\"", "User :: \"a\"", "User::\"a", "9::\"a\"", "::\"a\"", "(User)::\"a\"", longName("n") + "n::\"a\"", "9223372036854775808",
		"principal::", "principal::a", "principal::\"\"", "if::", "true::", "principal\x00", "\x00", "\n", "principal\n", "\xff", "é", "principal;", ";", "?", "principal == ?", "principal in ?", "when principal", "permit",
	}
	for _, over := range [][]impl.Expr{broadExpr(61), broadSets(61)} {
		texts = append(texts, rawExprText(over))
	}
	for _, over := range deepExprs(13) {
		texts = append(texts, rawExprText(over))
	}
	return append(texts, exprTextByWords(exprOfLength(9001)))
}

// rawExprText is the text that an expression would have that goes beyond how many nodes there may be, or how many within each other: the brackets are in place.
func rawExprText(e []impl.Expr) string {
	var sides []toldSide
	for i := len(e) - 1; i >= 0; i-- {
		left := len(sides) - e[i].Kids
		kids := slices.Clone(sides[left:])
		slices.Reverse(kids)
		sides = append(sides[:left], toldSide{exprNodeText(e[i], kids), e[i].Kind})
	}
	return sides[0].text
}

func anyHead() impl.Head {
	return impl.Head{Kind: impl.HeadAny}
}

func refHead(kind int, typ string, text string) impl.Head {
	return impl.Head{Kind: kind, Atom: refAtom(typ, text)}
}

func isHead(typ string) impl.Head {
	return impl.Head{Kind: impl.HeadIs, Type: typ}
}

// plainPolicy is one of which all else is good.
func plainPolicy(id string) impl.Policy {
	return impl.Policy{Id: id, Permit: true, Principal: anyHead(), Action: anyHead(), Resource: anyHead()}
}

// template is a policy with two slots, and a When.
func template() impl.Policy {
	p := plainPolicy("t")
	p.Principal, p.Action, p.Resource = impl.Head{Kind: impl.HeadSlot}, refHead(impl.HeadIn, "Action", "read"), impl.Head{Kind: impl.HeadInSlot}
	p.When = exprOf(impl.ExprHas, "a", principalExpr())
	return p
}

// toldHeads are good heads, each with what stands behind the word; the last two are slots.
func toldHeads() ([]impl.Head, []string) {
	name := longName("T")
	long := strings.Repeat("\"", impl.MaxText)
	return []impl.Head{
		anyHead(), refHead(impl.HeadSame, "User", "ann"), refHead(impl.HeadIn, "Group", ", action) when \"?\";"), isHead("Doc"), isHead(name), isHead("is"),
		refHead(impl.HeadSame, "principal", "?"), refHead(impl.HeadIn, name, long), {Kind: impl.HeadSlot}, {Kind: impl.HeadInSlot},
	}, []string{
		"", " == User::\"ann\"", " in Group::\", action) when \\\"?\\\";\"", " is Doc", " is " + name, " is is",
		" == principal::\"?\"", " in " + name + "::\"" + strings.Repeat("\\\"", impl.MaxText) + "\"", " == ?", " in ?",
	}
}

// goodPolicies are policies of every sort, each with its line.
func goodPolicies() []toldPolicy {
	heads, texts := toldHeads()
	slots := len(heads) - 2
	var all []toldPolicy
	add := func(p impl.Policy, text string) { all = append(all, toldPolicy{p, text}) }
	for _, id := range []string{"a", "9", "_", "-", ".", "..", "permit", "p-2", longId("z"), longId("-")} {
		add(plainPolicy(id), "permit \""+id+"\" (principal, action, resource);")
	}
	for i, first := range heads {
		for j, second := range heads[:slots] {
			for k, third := range heads {
				p := impl.Policy{Id: "p", Permit: (i+j+k)%2 == 0, Principal: first, Action: second, Resource: third}
				word := map[bool]string{true: "permit", false: "forbid"}[p.Permit]
				add(p, word+" \"p\" (principal"+texts[i]+", action"+texts[j]+", resource"+texts[k]+");")
			}
		}
	}
	for _, g := range goodExprs() {
		p := plainPolicy("p")
		p.When = g.expr
		add(p, "permit \"p\" (principal, action, resource) when "+g.text+";")
		p.Permit, p.Action, p.Resource = false, isHead("A"), impl.Head{Kind: impl.HeadInSlot}
		add(p, "forbid \"p\" (principal, action is A, resource in ?) when "+g.text+";")
	}
	return all
}

// badHeads are good in no place.
func badHeads() []impl.Head {
	bad := []impl.Head{{}, {Kind: -1}, {Kind: 7}, {Kind: math.MinInt}, {Kind: math.MaxInt}}
	heads, _ := toldHeads()
	for _, h := range heads {
		for _, change := range []func(h *impl.Head){
			func(h *impl.Head) { h.Type += " " },
			func(h *impl.Head) { h.Atom.Kind++ },
			func(h *impl.Head) { h.Atom.Num = 1 },
			func(h *impl.Head) { h.Atom.Text += "\x00" },
			func(h *impl.Head) { h.Atom.Type += "-" },
			func(h *impl.Head) { h.Kind = 0 },
			func(h *impl.Head) { h.Kind += 6 },
		} {
			own := h
			change(&own)
			bad = append(bad, own)
		}
	}
	for _, kind := range []int{impl.HeadAny, impl.HeadIs, impl.HeadSlot, impl.HeadInSlot} {
		bad = append(bad, refHead(kind, "User", "a"), impl.Head{Kind: kind, Type: "User", Atom: refAtom("User", "a")})
	}
	for _, kind := range []int{impl.HeadAny, impl.HeadSame, impl.HeadIn, impl.HeadSlot, impl.HeadInSlot} {
		bad = append(bad, impl.Head{Kind: kind, Type: "User"})
	}
	for _, kind := range []int{impl.HeadSame, impl.HeadIn} {
		bad = append(bad, impl.Head{Kind: kind}, impl.Head{Kind: kind, Type: "User", Atom: refAtom("User", "a")})
		for _, a := range badAtoms() {
			bad = append(bad, impl.Head{Kind: kind, Atom: a})
		}
		for _, g := range goodAtoms() {
			if g.atom.Kind != impl.RefAtom {
				bad = append(bad, impl.Head{Kind: kind, Atom: g.atom})
			}
		}
	}
	for _, word := range badWords() {
		bad = append(bad, isHead(word))
	}
	return bad
}

// badPolicies are good ones with one thing changed.
func badPolicies() []impl.Policy {
	bad := []impl.Policy{{}, {Id: "p"}, {Permit: true}}
	add := func(change func(p *impl.Policy)) {
		for _, p := range []impl.Policy{plainPolicy("p"), template()} {
			change(&p)
			bad = append(bad, p)
		}
	}
	for _, id := range append(badIds(), "*", "\"", "a\"", "\\", "?", "a;") {
		add(func(p *impl.Policy) { p.Id = id })
	}
	for _, h := range badHeads() {
		add(func(p *impl.Policy) { p.Principal = h })
		add(func(p *impl.Policy) { p.Action = h })
		add(func(p *impl.Policy) { p.Resource = h })
	}
	for _, kind := range []int{impl.HeadSlot, impl.HeadInSlot} {
		add(func(p *impl.Policy) { p.Action = impl.Head{Kind: kind} })
	}
	for _, e := range badExprs() {
		if len(e) > 0 && len(e) < 1000 {
			add(func(p *impl.Policy) { p.When = e })
		}
	}
	return bad
}

// wrongPolicyLines are lines of no policy.
func wrongPolicyLines() []string {
	lines := []string{
		"", " ", ";", "permit", "forbid", "permit;", "permit \"p\"", "permit \"p\";", "permit \"p\" ()", "permit \"p\" ();", "permit \"p\" (principal, action, resource)", "permit \"p\" (principal, action, resource) ;", "permit \"p\" (principal, action, resource);;", "permit \"p\" (principal, action, resource); ", " permit \"p\" (principal, action, resource);", "permit  \"p\" (principal, action, resource);", "permit\"p\" (principal, action, resource);", "permit \"p\"(principal, action, resource);", "permit \"p\"  (principal, action, resource);", "permit \"p\" ( principal, action, resource);", "permit \"p\" (principal, action, resource );", "permit \"p\" (principal,action, resource);", "permit \"p\" (principal, action,resource);", "permit \"p\" (principal , action, resource);", "permit \"p\" (principal,  action, resource);",
		"Permit \"p\" (principal, action, resource);", "allow \"p\" (principal, action, resource);", "permitforbid \"p\" (principal, action, resource);", "permit forbid \"p\" (principal, action, resource);", "forbid permit \"p\" (principal, action, resource);", "\"p\" (principal, action, resource);",
		"permit p (principal, action, resource);", "permit 'p' (principal, action, resource);", "permit \"\" (principal, action, resource);", "permit \"p (principal, action, resource);", "permit p\" (principal, action, resource);", "permit \"p q\" (principal, action, resource);", "permit \"p\\\\\" (principal, action, resource);", "permit \"p*\" (principal, action, resource);", "permit \"\xff\" (principal, action, resource);", "permit \"" + longId("p") + "p\" (principal, action, resource);", "permit P::\"p\" (principal, action, resource);", "permit 1 (principal, action, resource);",
		"permit \"p\" (action, principal, resource);", "permit \"p\" (principal, resource, action);", "permit \"p\" (principal, action);", "permit \"p\" (principal, action, resource, context);", "permit \"p\" (principals, action, resource);", "permit \"p\" (principal, actions, resource);", "permit \"p\" (principal, action, resource1);", "permit \"p\" (, action, resource);", "permit \"p\" (principal, , resource);", "permit \"p\" (principal, action, );", "permit \"p\" principal, action, resource;", "permit \"p\" [principal, action, resource];", "permit \"p\" (principal, action, resource;", "permit \"p\" principal, action, resource);", "permit \"p\" (principal, action, resource));", "permit \"p\" ((principal, action, resource);",
		"permit \"p\" (principal ==, action, resource);", "permit \"p\" (principal == , action, resource);", "permit \"p\" (principal == 1, action, resource);", "permit \"p\" (principal == \"a\", action, resource);", "permit \"p\" (principal == User, action, resource);", "permit \"p\" (principal == User::a, action, resource);", "permit \"p\" (principal == User::\"\", action, resource);", "permit \"p\" (principal == User::\"a, action, resource);", "permit \"p\" (principal = User::\"a\", action, resource);", "permit \"p\" (principal ==User::\"a\", action, resource);", "permit \"p\" (principal== User::\"a\", action, resource);", "permit \"p\" (principal  == User::\"a\", action, resource);", "permit \"p\" (principal ==  User::\"a\", action, resource);", "permit \"p\" (principal == User::\"a\" , action, resource);", "permit \"p\" (principal == (User::\"a\"), action, resource);", "permit \"p\" (principal == User::\"a\" in Group::\"g\", action, resource);", "permit \"p\" (principal == principal, action, resource);",
		"permit \"p\" (principal in [User::\"a\"], action, resource);", "permit \"p\" (principal in , action, resource);", "permit \"p\" (principal in true, action, resource);", "permit \"p\" (principal inUser::\"a\", action, resource);", "permit \"p\" (principal is, action, resource);", "permit \"p\" (principal is , action, resource);", "permit \"p\" (principal is 9, action, resource);", "permit \"p\" (principal is A B, action, resource);", "permit \"p\" (principal is \"A\", action, resource);", "permit \"p\" (principal is A::\"a\", action, resource);", "permit \"p\" (principal is ?, action, resource);", "permit \"p\" (principal isA, action, resource);", "permit \"p\" (principal is " + longName("A") + "A, action, resource);", "permit \"p\" (principal has a, action, resource);", "permit \"p\" (principal < User::\"a\", action, resource);",
		"permit \"p\" (principal ?, action, resource);", "permit \"p\" (principal == ??, action, resource);", "permit \"p\" (principal == ? , action, resource);", "permit \"p\" (principal ==?, action, resource);", "permit \"p\" (principal in?, action, resource);", "permit \"p\" (principal == ?::\"a\", action, resource);", "permit \"p\" (principal == ?User::\"a\", action, resource);", "permit \"p\" (principal, action == ?, resource);", "permit \"p\" (principal, action in ?, resource);", "permit \"p\" (principal == ?, action == ?, resource == ?);", "permit \"p\" (?, action, resource);",
		"permit \"p\" (principal, action, resource) when;", "permit \"p\" (principal, action, resource) when ;", "permit \"p\" (principal, action, resource) when true", "permit \"p\" (principal, action, resource) when true;;", "permit \"p\" (principal, action, resource) when true ;", "permit \"p\" (principal, action, resource) when  true;", "permit \"p\" (principal, action, resource)  when true;", "permit \"p\" (principal, action, resource)when true;", "permit \"p\" (principal, action, resource) whentrue;", "permit \"p\" (principal, action, resource) when true when true;", "permit \"p\" (principal, action, resource) unless true;", "permit \"p\" (principal, action, resource) when (true);", "permit \"p\" (principal, action, resource) when {true};", "permit \"p\" (principal, action, resource); when true;", "permit \"p\" (principal, action, resource) true;",
		"permit \"p\" (principal, action, resource);\r", "permit \"p\" (principal, action, resource);\x00", "permit \"p\" (principal, action, resource); permit \"q\" (principal, action, resource);", "permit \"p\" (principal, action, resource);// a", "\tpermit \"p\" (principal, action, resource);",
	}
	for _, text := range wrongExprTexts() {
		if !strings.Contains(text, "\n") && !strings.HasSuffix(text, ";") {
			lines = append(lines, "permit \"p\" (principal, action, resource) when "+text+";")
		}
	}
	return lines
}

// countedPolicies are so many plain policies, rising, each with its line, ended.
func countedPolicies(many int) ([]impl.Policy, []string) {
	var policies []impl.Policy
	var lines []string
	for i := range many {
		id := "p" + strconv.Itoa(100+i)
		policies = append(policies, plainPolicy(id))
		lines = append(lines, "permit \""+id+"\" (principal, action, resource);\n")
	}
	return policies, lines
}

// fullPolicies are MaxPolicies policies whose lines have so many bytes together, at least 6000.
func fullPolicies(bytes int) ([]impl.Policy, string) {
	policies, _ := countedPolicies(impl.MaxPolicies)
	all := ""
	for i := range policies {
		left := bytes - len(all)
		bare := len(policyTextByWords(policies[i])) + len(" when ") + 1
		policies[i].When = exprOfLength(left/(len(policies)-i) - bare)
		all += policyTextByWords(policies[i]) + "\n"
	}
	return policies, all
}
