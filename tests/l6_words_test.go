package tests

import (
	"regexp"
	"slices"
	"strconv"
	"strings"

	"loop.example/g00036/impl"
)

// What the document says of chapter 6, worked out in other ways than the program does.

// lineForm is a form in which NAME stands for a name of any length.
func lineForm(form string) *regexp.Regexp {
	return regexp.MustCompile("^" + strings.ReplaceAll(form, "NAME", "[a-zA-Z_][a-zA-Z0-9_]*"))
}

var (
	wordOnly       = lineForm(`NAME$`)
	caveatLine     = lineForm(`caveat (NAME)\((NAME [a-z]+(?:, NAME [a-z]+)*)\): (.*)$`)
	termForm       = lineForm(`(NAME) (==|<=|<|in) ((?:[^ "]|"(?:[^"\\]|\\.)*")+)( && |$)`)
	typeLine       = lineForm(`type (NAME)$`)
	relationLine   = lineForm(` relation (NAME): (NAME(?:#NAME|:\*)?(?: with NAME)?(?: \| NAME(?:#NAME|:\*)?(?: with NAME)?)*)$`)
	permissionLine = lineForm(` permission (NAME) = (.*)$`)
	singleForm     = lineForm(`(?:(NAME)->)?(NAME)$`)
)

var wordsOfKinds = []string{"", "bool", "num", "text", "ref", "dec", "addr", "time"}
var signsOfOps = []string{"", "==", "<", "<=", "in"}
var signsOfPairs = []string{"", "", "", " + ", " & ", " - ", ""}

// kindsOfOps are the kinds of both sides, as digits, for each Op.
var kindsOfOps = []string{"", "1234567", "2357", "2357", "6"}

func isPairByWords(n impl.Rewrite) bool {
	return isBetween(n.Kind, 3, 5)
}

func risesByWords(names []string) bool {
	return slices.IsSorted(names) && len(slices.Compact(slices.Clone(names))) == len(names)
}

func goodCaveatByWords(c impl.Caveat) bool {
	if !changeName.MatchString(c.Name) || !isBetween(len(c.Params), 1, 6) || !isBetween(len(c.Terms), 1, 6) {
		return false
	}
	var names []string
	for _, p := range c.Params {
		if !changeName.MatchString(p.Name) || p.Name == "true" || p.Name == "false" || !isBetween(p.Kind, 1, 7) {
			return false
		}
		names = append(names, p.Name)
	}
	return risesByWords(names) && !slices.ContainsFunc(c.Terms, func(t impl.CavTerm) bool { return !goodTermByWords(t, c.Params) })
}

func goodTermByWords(t impl.CavTerm, params []impl.Param) bool {
	left, right := impl.Param{}, impl.Param{Kind: t.Atom.Kind}
	for _, p := range params {
		if p.Name == t.Left {
			left = p
		}
		if p.Name == t.Param {
			right = p
		}
	}
	if t.Param == "" && !impl.GoodAtom(t.Atom) || t.Param != "" && (t.Atom != impl.Atom{} || right.Name == "") {
		return false
	}
	return left.Name != "" && left.Kind == right.Kind && isBetween(t.Op, 1, 4) && strings.Contains(kindsOfOps[t.Op], strconv.Itoa(left.Kind))
}

// givenByWords is what a record has under a name by the first of the params with it.
func givenByWords(name string, params []impl.Param, given impl.Value) (impl.Atom, bool) {
	for _, p := range params {
		if p.Name != name {
			continue
		}
		for i := range given.Names {
			if given.Names[i] == name && given.Items[i].Kind == p.Kind {
				return given.Items[i], true
			}
		}
		return impl.Atom{}, false
	}
	return impl.Atom{}, false
}

func lessByWords(a impl.Atom, b impl.Atom) bool {
	switch {
	case a.Kind != b.Kind:
		return a.Kind < b.Kind
	case a.Num != b.Num:
		return a.Num < b.Num
	case a.Type != b.Type:
		return a.Type < b.Type
	}
	return a.Text < b.Text
}

func addrInByWords(a impl.Atom, b impl.Atom) bool {
	lastOf := func(x impl.Atom) int { return x.Num/64 + 1<<(32-x.Num%64) - 1 }
	return a.Kind == impl.AddrAtom && b.Kind == impl.AddrAtom && a.Num/64 >= b.Num/64 && lastOf(a) <= lastOf(b)
}

func isRecord(v impl.Value) bool {
	return impl.GoodValue(v) && v.Kind == impl.ValueRecord
}

func termByWords(t impl.CavTerm, params []impl.Param, given impl.Value) int {
	if !isRecord(given) || !isBetween(t.Op, 1, 4) || t.Param != "" && t.Atom != (impl.Atom{}) {
		return -1
	}
	left, ok := givenByWords(t.Left, params, given)
	right, also := t.Atom, true
	if t.Param != "" {
		right, also = givenByWords(t.Param, params, given)
	}
	if !ok || !also {
		return impl.Maybe
	}
	if !impl.GoodAtom(right) {
		return impl.No
	}
	holds := []bool{
		impl.OpSame: left == right,
		impl.OpLess: lessByWords(left, right),
		impl.OpMost: !lessByWords(right, left),
		impl.OpIn:   addrInByWords(left, right),
	}
	if holds[t.Op] {
		return impl.Yes
	}
	return impl.No
}

func caveatByWords(c impl.Caveat, given impl.Value) int {
	if !isRecord(given) || !goodCaveatByWords(c) {
		return -1
	}
	var all []int
	for _, t := range c.Terms {
		all = append(all, termByWords(t, c.Params, given))
	}
	for _, truth := range []int{impl.No, impl.Maybe} {
		if slices.Contains(all, truth) {
			return truth
		}
	}
	return impl.Yes
}

// endsOf tells for each node where the tree that it begins ends; false where they are no one tree.
func endsOf(body []impl.Rewrite) ([]int, bool) {
	ends := make([]int, len(body))
	for i := len(body) - 1; i >= 0; i-- {
		ends[i] = i + 1
		for kid := 0; kid < 2 && isPairByWords(body[i]); kid++ {
			if ends[i] >= len(body) {
				return nil, false
			}
			ends[i] = ends[ends[i]]
		}
	}
	return ends, len(body) > 0 && ends[0] == len(body)
}

func goodBodyByWords(body []impl.Rewrite) bool {
	ends, ok := endsOf(body)
	if !ok || len(body) > 30 {
		return false
	}
	for i := range body {
		within := 0
		for k := range i + 1 {
			if i < ends[k] {
				within++
			}
		}
		if within > 10 {
			return false
		}
	}
	return true
}

// isAgainst says whether the node stands in the second kid of a RewriteLess.
func isAgainst(body []impl.Rewrite, at int) bool {
	ends, _ := endsOf(body)
	for k, n := range body {
		if n.Kind == impl.RewriteLess && ends[k+1] <= at && at < ends[k] {
			return true
		}
	}
	return false
}

func namesOfType(s impl.RelSchema, typ string) []string {
	var names []string
	for _, t := range s.Types {
		if t.Name == typ {
			for _, r := range t.Relations {
				names = append(names, r.Name)
			}
			for _, p := range t.Permissions {
				names = append(names, p.Name)
			}
		}
	}
	return names
}

// plainTypes are the types of those Subjects of a relation that have neither Rel nor Star, where these have the name.
func plainTypes(s impl.RelSchema, t impl.RelType, n impl.Rewrite) []string {
	var types []string
	for _, r := range t.Relations {
		for _, k := range r.Subjects {
			if r.Name == n.Via && k.Rel == "" && !k.Star && slices.Contains(namesOfType(s, k.Type), n.Name) {
				types = append(types, k.Type)
			}
		}
	}
	return types
}

// subjectKey is less where the subject is told ahead: byte 0 ends a text ahead of all that goes on.
func subjectKey(k impl.SubjectKind) string {
	star := "0"
	if k.Star {
		star = "1"
	}
	return strings.Join([]string{k.Type, k.Rel, star, k.Caveat}, "\x00")
}

func goodRelationByWords(s impl.RelSchema, r impl.Relation) bool {
	if !isBetween(len(r.Subjects), 1, 8) {
		return false
	}
	var keys []string
	for _, k := range r.Subjects {
		keys = append(keys, subjectKey(k))
		typed := slices.ContainsFunc(s.Types, func(t impl.RelType) bool { return t.Name == k.Type })
		known := k.Caveat == "" || slices.ContainsFunc(s.Caveats, func(c impl.Caveat) bool { return c.Name == k.Caveat })
		if !typed || !known || k.Rel != "" && (k.Star || !slices.Contains(namesOfType(s, k.Type), k.Rel)) {
			return false
		}
	}
	return risesByWords(keys)
}

func goodPermissionByWords(s impl.RelSchema, t impl.RelType, p impl.Permission) bool {
	if !goodBodyByWords(p.Body) {
		return false
	}
	for _, n := range p.Body {
		named := n.Via == "" && slices.Contains(namesOfType(s, t.Name), n.Name)
		bare := n.Via == "" && n.Name == ""
		if !isBetween(n.Kind, 1, 6) || ![]bool{false, named, len(plainTypes(s, t, n)) > 0, bare, bare, bare, bare}[n.Kind] {
			return false
		}
	}
	return true
}

func goodTypeByWords(s impl.RelSchema, t impl.RelType) bool {
	if !changeName.MatchString(t.Name) || len(t.Relations) > 12 || len(t.Permissions) > 12 {
		return false
	}
	all := namesOfType(impl.RelSchema{Types: []impl.RelType{t}}, t.Name)
	for _, name := range all {
		if !changeName.MatchString(name) || name == "nil" {
			return false
		}
	}
	if !risesByWords(all[:len(t.Relations)]) || !risesByWords(all[len(t.Relations):]) {
		return false
	}
	slices.Sort(all)
	return risesByWords(all) &&
		!slices.ContainsFunc(t.Relations, func(r impl.Relation) bool { return !goodRelationByWords(s, r) }) &&
		!slices.ContainsFunc(t.Permissions, func(p impl.Permission) bool { return !goodPermissionByWords(s, t, p) })
}

// goodNamesByWords says whether the schema is as said but for its strata.
func goodNamesByWords(s impl.RelSchema) bool {
	if len(s.Caveats) > 8 || len(s.Types) > 12 {
		return false
	}
	var caveats, types []string
	for _, c := range s.Caveats {
		caveats = append(caveats, c.Name)
	}
	for _, t := range s.Types {
		types = append(types, t.Name)
	}
	return risesByWords(caveats) && risesByWords(types) &&
		!slices.ContainsFunc(s.Caveats, func(c impl.Caveat) bool { return !goodCaveatByWords(c) }) &&
		!slices.ContainsFunc(s.Types, func(t impl.RelType) bool { return !goodTypeByWords(s, t) })
}

// wordLean says that one name, told as TYPE#NAME, leans on another.
type wordLean struct {
	from, on string
	against  bool
}

// leansByWords are the names in order, and what leans on what by one step.
func leansByWords(s impl.RelSchema) ([]string, []wordLean) {
	var names []string
	var leans []wordLean
	for _, t := range s.Types {
		for _, name := range namesOfType(s, t.Name) {
			names = append(names, t.Name+"#"+name)
		}
		for _, r := range t.Relations {
			for _, k := range r.Subjects {
				if k.Rel != "" {
					leans = append(leans, wordLean{t.Name + "#" + r.Name, k.Type + "#" + k.Rel, false})
				}
			}
		}
		for _, p := range t.Permissions {
			for i, n := range p.Body {
				own, against := t.Name+"#"+p.Name, isAgainst(p.Body, i)
				switch n.Kind {
				case impl.RewriteName:
					leans = append(leans, wordLean{own, t.Name + "#" + n.Name, against})
				case impl.RewriteArrow:
					leans = append(leans, wordLean{own, t.Name + "#" + n.Via, against})
					for _, typ := range plainTypes(s, t, n) {
						leans = append(leans, wordLean{own, typ + "#" + n.Name, against})
					}
				}
			}
		}
	}
	return names, leans
}

// wordStrata has, for names by their numbers, which lean on which by way of others (2 where a step is against), and their levels.
type wordStrata struct {
	names  []string
	by     [][]int
	levels []int
}

// strataTable is right only where ok: otherwise a name leans on itself against.
func strataTable(s impl.RelSchema) (w wordStrata, ok bool) {
	names, leans := leansByWords(s)
	w.names, w.levels = names, make([]int, len(names))
	numbers := map[string]int{}
	for i, name := range names {
		numbers[name], w.levels[i] = i, -1
		w.by = append(w.by, make([]int, len(names)))
	}
	for _, l := range leans {
		how := &w.by[numbers[l.from]][numbers[l.on]]
		*how = max(*how, 1)
		if l.against {
			*how = 2
		}
	}
	for k := range names {
		for i := range names {
			for j := range names {
				if first, second := w.by[i][k], w.by[k][j]; first > 0 && second > 0 {
					w.by[i][j] = max(w.by[i][j], first, second)
				}
			}
		}
	}
	for i := range names {
		if w.by[i][i] == 2 {
			return w, false
		}
	}
	for i := range names {
		w.levelOf(i, numbers, leans)
	}
	return w, true
}

// levelOf is one more than the highest level that is leaned on against by the name or by one it leans on.
func (w wordStrata) levelOf(i int, numbers map[string]int, leans []wordLean) int {
	if w.levels[i] < 0 {
		level := 0
		for _, l := range leans {
			if from := numbers[l.from]; l.against && (from == i || w.by[i][from] > 0) {
				level = max(level, 1+w.levelOf(numbers[l.on], numbers, leans))
			}
		}
		w.levels[i] = level
	}
	return w.levels[i]
}

func goodRelByWords(s impl.RelSchema) bool {
	if !goodNamesByWords(s) {
		return false
	}
	_, ok := strataTable(s)
	return ok
}

// strataByWords are the strata of the names that lean on the one told as TYPE#NAME, or of all where it is empty.
func strataByWords(s impl.RelSchema, on string) []impl.Stratum {
	if !goodNamesByWords(s) {
		return nil
	}
	w, ok := strataTable(s)
	at := slices.Index(w.names, on)
	if !ok || on != "" && at < 0 {
		return nil
	}
	var out []impl.Stratum
	for i, name := range w.names {
		if on == "" || i == at || w.by[i][at] > 0 {
			typ, own, _ := strings.Cut(name, "#")
			out = append(out, impl.Stratum{Type: typ, Name: own, Level: w.levels[i]})
		}
	}
	return out
}

// bodyTextByWords goes from the last node on: the texts of a node's kids are the last two then.
func bodyTextByWords(body []impl.Rewrite) string {
	type part struct {
		text string
		pair bool
	}
	var parts []part
	for i := len(body) - 1; i >= 0; i-- {
		n, many := body[i], len(parts)
		if !isPairByWords(n) {
			text := []string{impl.RewriteName: n.Name, impl.RewriteArrow: n.Via + "->" + n.Name, impl.RewriteNil: "nil"}[n.Kind]
			parts = append(parts, part{text, false})
			continue
		}
		first, second := parts[many-1], parts[many-2]
		if second.pair {
			second.text = "(" + second.text + ")"
		}
		parts = append(parts[:many-2], part{first.text + signsOfPairs[n.Kind] + second.text, true})
	}
	return parts[0].text
}

func caveatTextByWords(c impl.Caveat) string {
	text := "caveat " + c.Name
	for i, p := range c.Params {
		text += []string{"(", ", "}[min(i, 1)] + p.Name + " " + wordsOfKinds[p.Kind]
	}
	for i, t := range c.Terms {
		text += []string{"): ", " && "}[min(i, 1)] + t.Left + " " + signsOfOps[t.Op] + " " + t.Param + impl.AtomText(t.Atom)
	}
	return text + "\n"
}

func relTextByWords(s impl.RelSchema) string {
	if !goodRelByWords(s) {
		return ""
	}
	text := ""
	for _, c := range s.Caveats {
		text += caveatTextByWords(c)
	}
	for _, t := range s.Types {
		text += "type " + t.Name + "\n"
		for _, r := range t.Relations {
			for i, k := range r.Subjects {
				text += []string{" relation " + r.Name + ": ", " | "}[min(i, 1)] + k.Type
				if k.Rel != "" {
					text += "#" + k.Rel
				}
				if k.Star {
					text += ":*"
				}
				if k.Caveat != "" {
					text += " with " + k.Caveat
				}
			}
			text += "\n"
		}
		for _, p := range t.Permissions {
			text += " permission " + p.Name + " = " + bodyTextByWords(p.Body) + "\n"
		}
	}
	if len(text) > 8000 {
		return ""
	}
	return text
}

// lastSign is where the last sign between two stands that is in no brackets; -1 where there is none.
func lastSign(text string) int {
	within := 0
	for i := len(text) - 1; i >= 0; i-- {
		switch text[i] {
		case ')':
			within++
		case '(':
			within--
		}
		if within == 0 && i+3 <= len(text) && slices.Contains(signsOfPairs[3:6], text[i:i+3]) {
			return i
		}
	}
	return -1
}

// bodyByWords parts a body at its last sign.
func bodyByWords(text string) ([]impl.Rewrite, bool) {
	at := lastSign(text)
	if at < 0 {
		return singleByWords(text)
	}
	kind := slices.Index(signsOfPairs, text[at:at+3])
	first, ok := bodyByWords(text[:at])
	if !ok {
		return nil, false
	}
	second := text[at+3:]
	read := singleByWords
	if strings.HasPrefix(second, "(") && strings.HasSuffix(second, ")") {
		second = second[1 : len(second)-1]
		if lastSign(second) < 0 {
			return nil, false
		}
		read = bodyByWords
	}
	nodes, ok := read(second)
	return slices.Concat([]impl.Rewrite{{Kind: kind}}, first, nodes), ok
}

func singleByWords(text string) ([]impl.Rewrite, bool) {
	m := singleForm.FindStringSubmatch(text)
	switch {
	case text == "nil":
		return []impl.Rewrite{{Kind: impl.RewriteNil}}, true
	case m == nil || m[1] == "nil" || m[2] == "nil":
		return nil, false
	case m[1] != "":
		return []impl.Rewrite{{Kind: impl.RewriteArrow, Via: m[1], Name: m[2]}}, true
	}
	return []impl.Rewrite{{Kind: impl.RewriteName, Name: text}}, true
}

func termsByWords(text string) ([]impl.CavTerm, bool) {
	var terms []impl.CavTerm
	for {
		m := termForm.FindStringSubmatch(text)
		if m == nil {
			return nil, false
		}
		t := impl.CavTerm{Left: m[1], Op: slices.Index(signsOfOps, m[2])}
		if wordOnly.MatchString(m[3]) && m[3] != "true" && m[3] != "false" {
			t.Param = m[3]
		} else if a, ok := impl.ReadAtom(m[3]); ok {
			t.Atom = a
		} else {
			return nil, false
		}
		terms = append(terms, t)
		if m[4] == "" {
			return terms, true
		}
		text = text[len(m[0]):]
	}
}

func caveatLineByWords(m []string) (impl.Caveat, bool) {
	c := impl.Caveat{Name: m[1]}
	for _, told := range strings.Split(m[2], ", ") {
		name, word, _ := strings.Cut(told, " ")
		kind := slices.Index(wordsOfKinds, word)
		if kind < 0 {
			return c, false
		}
		c.Params = append(c.Params, impl.Param{Name: name, Kind: kind})
	}
	terms, ok := termsByWords(m[3])
	c.Terms = terms
	return c, ok
}

func subjectByWords(text string) impl.SubjectKind {
	own, caveat, _ := strings.Cut(text, " with ")
	typ, star := strings.CutSuffix(own, ":*")
	typ, rel, _ := strings.Cut(typ, "#")
	return impl.SubjectKind{Type: typ, Rel: rel, Star: star, Caveat: caveat}
}

// lineByWords puts what the line tells into the schema; false where it is wrong there.
func lineByWords(s *impl.RelSchema, line string) bool {
	last := len(s.Types) - 1
	if m := caveatLine.FindStringSubmatch(line); m != nil {
		c, ok := caveatLineByWords(m)
		s.Caveats = append(s.Caveats, c)
		return ok && last < 0
	}
	if m := typeLine.FindStringSubmatch(line); m != nil {
		s.Types = append(s.Types, impl.RelType{Name: m[1]})
		return true
	}
	if last < 0 {
		return false
	}
	t := &s.Types[last]
	if m := relationLine.FindStringSubmatch(line); m != nil {
		r := impl.Relation{Name: m[1]}
		for _, told := range strings.Split(m[2], " | ") {
			r.Subjects = append(r.Subjects, subjectByWords(told))
		}
		t.Relations = append(t.Relations, r)
		return len(t.Permissions) == 0
	}
	if m := permissionLine.FindStringSubmatch(line); m != nil {
		body, ok := bodyByWords(m[2])
		t.Permissions = append(t.Permissions, impl.Permission{Name: m[1], Body: body})
		return ok
	}
	return false
}

// relLinesByWords answers the number of the first wrong line, 0 where there is none.
func relLinesByWords(text string) (impl.RelSchema, int) {
	var s impl.RelSchema
	for i, line := range strings.SplitAfter(text, "\n") {
		own, ended := strings.CutSuffix(line, "\n")
		if line != "" && (!ended || !lineByWords(&s, own)) {
			return impl.RelSchema{}, i + 1
		}
	}
	return s, 0
}

func readRelByWords(text string) impl.RelRes {
	if len(text) > 8000 {
		return impl.RelRes{Err: 1}
	}
	s, wrong := relLinesByWords(text)
	if wrong > 0 {
		return impl.RelRes{Err: 2, Line: wrong}
	}
	if !goodRelByWords(s) {
		return impl.RelRes{Err: 3}
	}
	return impl.RelRes{Schema: s}
}
