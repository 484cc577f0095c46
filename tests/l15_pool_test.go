package tests

import (
	"math"
	"math/rand"
	"slices"
	"strconv"
	"strings"

	"loop.example/g00036/impl"
)

// roleLine is the role of a line: `boss > clerk teller : approve sign`.
func roleLine(line string) impl.Role {
	line, perms, _ := strings.Cut(line, ":")
	name, under, _ := strings.Cut(line, ">")
	return impl.Role{Name: strings.TrimSpace(name), Under: strings.Fields(under), Perms: strings.Fields(perms)}
}

// roleSetOf is the set, good or not, of lines: `role` and a role, `apart 1 clerk payer`, `active 1 clerk guard`, `glass guard payer`.
func roleSetOf(lines ...string) impl.RoleSet {
	var s impl.RoleSet
	for _, line := range lines {
		word, rest, _ := strings.Cut(line, " ")
		most, roles, _ := strings.Cut(rest, " ")
		num, _ := strconv.Atoi(most)
		switch word {
		case "role":
			s.Roles = append(s.Roles, roleLine(rest))
		case "apart", "active":
			s.Parts = append(s.Parts, impl.Apart{Roles: strings.Fields(roles), Most: num, Active: word == "active"})
		case "glass":
			s.Glass = append(s.Glass, strings.Fields(rest)...)
		default:
			panic("no line of a set: " + line)
		}
	}
	return s
}

// firm is a good set with roles over each other, Parts of both sorts and Glass.
func firm() impl.RoleSet {
	return roleSetOf(
		"role auditor : audit read",
		"role boss > clerk teller : approve",
		"role chief > boss",
		"role clerk > reader : enter",
		"role guard : lock",
		"role payer : pay",
		"role reader : read",
		"role teller > reader : count",
		"apart 1 clerk payer",
		"apart 2 auditor guard teller",
		"active 1 guard reader",
		"active 2 clerk payer teller",
		"glass guard payer",
	)
}

// bank is a small one: a user must not have both of two roles, a session not both of two others.
func bank() impl.RoleSet {
	return roleSetOf("role a > b : pa", "role b : pb", "role c : pc", "role d : pd", "apart 1 b c", "active 1 b d", "glass c d")
}

func countedRole(i int) string {
	return "r" + strconv.Itoa(100+i)
}

// countedRoles stand alone.
func countedRoles(many int) impl.RoleSet {
	var s impl.RoleSet
	for i := range many {
		s.Roles = append(s.Roles, impl.Role{Name: countedRole(i)})
	}
	return s
}

// chainedRoles have each the next one under it; turned, each the one ahead of it.
func chainedRoles(many int, turned bool) impl.RoleSet {
	s := countedRoles(many)
	for i := 1; i < many; i++ {
		if turned {
			s.Roles[i].Under = []string{countedRole(i - 1)}
		} else {
			s.Roles[i-1].Under = []string{countedRole(i)}
		}
	}
	return s
}

// ringOfRoles has so many roles under each other, and one more above them.
func ringOfRoles(many int) impl.RoleSet {
	s := chainedRoles(many+1, false)
	s.Roles[many].Under = append(s.Roles[many].Under, countedRole(1))
	return s
}

// heapOfRoles has under each role all that come behind it.
func heapOfRoles(many int) impl.RoleSet {
	s := countedRoles(many)
	for i := range many {
		s.Roles[i].Under = roleNames(s)[i+1:]
	}
	return s
}

func withParts(s impl.RoleSet, many int) impl.RoleSet {
	for i := range many {
		s.Parts = append(s.Parts, impl.Apart{Roles: roleNames(s)[:2+i%3], Most: 1, Active: i%2 == 1})
	}
	return s
}

func copiedRoleSet(s impl.RoleSet) impl.RoleSet {
	s.Roles, s.Parts, s.Glass = slices.Clone(s.Roles), slices.Clone(s.Parts), slices.Clone(s.Glass)
	for i, r := range s.Roles {
		s.Roles[i].Under, s.Roles[i].Perms = slices.Clone(r.Under), slices.Clone(r.Perms)
	}
	for i, p := range s.Parts {
		s.Parts[i].Roles = slices.Clone(p.Roles)
	}
	return s
}

func goodRoleSets() []impl.RoleSet {
	long := longName("n")
	full := withParts(heapOfRoles(impl.MaxRoles), 10)
	full.Glass = roleNames(full)
	for i := range full.Roles {
		full.Roles[i].Perms = countedNames(20)
	}
	full.Parts[3] = impl.Apart{Roles: roleNames(full), Most: impl.MaxRoles - 1}
	good := []impl.RoleSet{
		{}, {Roles: []impl.Role{}, Parts: []impl.Apart{}, Glass: []string{}},
		firm(), bank(), full,
		countedRoles(1), countedRoles(impl.MaxRoles), chainedRoles(impl.MaxRoles, false), chainedRoles(impl.MaxRoles, true), heapOfRoles(impl.MaxRoles),
		withParts(countedRoles(4), 10),
		roleSetOf("role A", "role Z", "role _", "role a", "role a1", "role aa", "role b", "glass A Z _ a a1 aa b", "apart 6 A Z _ a a1 aa b"),
		roleSetOf("role "+long+" : "+long, "role o > "+long, "active 1 "+long+" o", "glass "+long),
		// Two ways lead to one role, and a role is told that comes by way of another, too.
		roleSetOf("role a > b c d", "role b > d", "role c > d", "role d"),
		roleSetOf("role a", "role b > a", "role c > a b", "role d > a b c"),
		// The same Part twice, and one within another.
		roleSetOf("role a", "role b", "role c", "apart 1 a b", "apart 1 a b", "active 1 a b", "apart 2 a b c"),
		// A Part of a role and what comes under it: nobody may have the role.
		roleSetOf("role a > b", "role b", "apart 1 a b"),
		roleSetOf("role a : p", "role b : p", "role c : a b c"),
	}
	for _, many := range []int{2, 3, 30} {
		for _, most := range []int{1, many - 1} {
			s := countedRoles(impl.MaxRoles)
			s.Parts = []impl.Apart{{Roles: roleNames(s)[:many], Most: most}}
			good = append(good, s)
		}
	}
	return good
}

// badRoleSets are made of a good one by a change each.
func badRoleSets() []impl.RoleSet {
	bad := []impl.RoleSet{
		countedRoles(impl.MaxRoles + 1), countedRoles(3000), chainedRoles(impl.MaxRoles+1, false), chainedRoles(impl.MaxRoles+1, true),
		ringOfRoles(1), ringOfRoles(2), ringOfRoles(3), ringOfRoles(impl.MaxRoles - 1),
		withParts(countedRoles(4), 11), withParts(countedRoles(4), 3000),
		roleSetOf("role b", "role a"), roleSetOf("role a", "role a"), roleSetOf("role a", "role c", "role b"), roleSetOf("role a", "role b", "role b"), roleSetOf("role a1", "role a"), roleSetOf("role a", "role A"),
		{Roles: make([]impl.Role, 1)}, {Roles: make([]impl.Role, 100000)}, {Parts: make([]impl.Apart, 1)}, {Parts: make([]impl.Apart, 100000)}, {Glass: make([]string, 1)}, {Glass: make([]string, 100000)},
		{Glass: []string{"a"}},
	}
	add := func(change func(s *impl.RoleSet)) {
		s := copiedRoleSet(firm())
		change(&s)
		bad = append(bad, s)
	}
	for _, word := range badWords() {
		add(func(s *impl.RoleSet) { s.Roles[0].Name = word })
		add(func(s *impl.RoleSet) { s.Roles[7].Name = word })
		add(func(s *impl.RoleSet) { s.Roles[0].Perms[0] = word })
		add(func(s *impl.RoleSet) { s.Roles[6].Perms[0] = word })
		add(func(s *impl.RoleSet) { s.Roles[7].Perms = append(s.Roles[7].Perms, word) })
		add(func(s *impl.RoleSet) { s.Roles[1].Under[0] = word })
		add(func(s *impl.RoleSet) { s.Parts[0].Roles[0] = word })
		add(func(s *impl.RoleSet) { s.Parts[3].Roles[2] = word })
		add(func(s *impl.RoleSet) { s.Glass[1] = word })
	}
	for _, under := range []string{"boss", "chief", "auditor boss", "nobody", "clerk nobody", "teller clerk", "clerk clerk", "clerk teller teller", "auditor clerk boss", "Clerk"} {
		add(func(s *impl.RoleSet) { s.Roles[1].Under = strings.Fields(under) })
	}
	for _, perms := range []string{"b a", "a a", "a b b", "a c b", "a1 a", "a A"} {
		add(func(s *impl.RoleSet) { s.Roles[4].Perms = strings.Fields(perms) })
	}
	for _, many := range []int{21, 22, 3000} {
		add(func(s *impl.RoleSet) { s.Roles[4].Perms = countedTexts(many) })
		add(func(s *impl.RoleSet) { s.Roles[7].Perms = countedNames(many) })
	}
	for at := range firm().Parts {
		for _, roles := range []string{"", "clerk", "payer clerk", "clerk clerk", "clerk payer payer", "clerk nobody", "Clerk clerk", "enter pay"} {
			add(func(s *impl.RoleSet) { s.Parts[at].Roles = strings.Fields(roles) })
		}
		for _, most := range []int{math.MinInt, -1, 0, len(firm().Parts[at].Roles), len(firm().Parts[at].Roles) + 1, math.MaxInt} {
			add(func(s *impl.RoleSet) { s.Parts[at].Most = most })
		}
	}
	for _, glass := range []string{"payer guard", "guard guard", "guard payer payer", "guard nobody", "Guard guard", "lock", "clerk boss guard"} {
		add(func(s *impl.RoleSet) { s.Glass = strings.Fields(glass) })
	}
	return bad
}

var wordsOfEvents = []string{"none", "assign", "revoke", "delegate", "recall", "open", "activate", "drop", "close", "glass"}

var wordsOfOutcomes = []string{"well", "bad", "time", "nothing", "forbidden", "apart", "limit"}

// outcomesOfEvents are, for each kind of event, all that may come of it.
var outcomesOfEvents = map[string]string{
	"assign": "well bad time nothing apart", "revoke": "well bad time nothing",
	"delegate": "well bad time forbidden limit apart", "recall": "well bad time nothing",
	"open": "well bad time nothing", "activate": "well bad time forbidden nothing apart",
	"drop": "well bad time nothing", "close": "well bad time nothing", "glass": "well bad time forbidden limit apart",
}

func numberOf(text string) int {
	num, err := strconv.Atoi(text)
	if err != nil {
		panic("no number: " + text)
	}
	return num
}

// eventOf is the event of a text: the Time, the word of the kind, and what is told for it, in the document's order.
func eventOf(text string) impl.RoleEvent {
	parts := strings.Fields(text)
	e := impl.RoleEvent{Time: numberOf(parts[0]), Kind: slices.Index(wordsOfEvents, parts[1])}
	fields := strings.Fields(fieldsOfEvents[e.Kind])
	if len(fields) != len(parts)-2 {
		panic("no event: " + text)
	}
	for i, field := range fields {
		told := parts[2+i]
		switch field {
		case "User":
			e.User = told
		case "Other":
			e.Other = told
		case "Role":
			e.Role = told
		case "Session":
			e.Session = told
		case "Until":
			e.Until = numberOf(told)
		}
	}
	return e
}

// historyOf is the events of texts, and the outcomes whose words stand behind them: `1 assign ann boss = well`; well where there is none.
func historyOf(lines ...string) ([]impl.RoleEvent, []int) {
	var events []impl.RoleEvent
	var outcomes []int
	for _, line := range lines {
		text, word, ok := strings.Cut(line, " = ")
		if !ok {
			word = "well"
		}
		outcome := slices.Index(wordsOfOutcomes, word)
		if outcome < 0 {
			panic("no outcome: " + line)
		}
		events, outcomes = append(events, eventOf(text)), append(outcomes, outcome)
	}
	return events, outcomes
}

func eventsOf(lines ...string) []impl.RoleEvent {
	events, _ := historyOf(lines...)
	return events
}

func outcomesText(outcomes []int) string {
	var texts []string
	for _, outcome := range outcomes {
		texts = append(texts, wordsOfOutcomes[outcome])
	}
	return strings.Join(texts, " ")
}

func grantText(g impl.RoleGrant) string {
	text := g.User + " " + g.Role + " @" + strconv.Itoa(g.Since)
	if g.From != "" || g.Depth != 0 || g.Until != impl.MaxTime {
		text += " <" + g.From + " ." + strconv.Itoa(g.Until) + " /" + strconv.Itoa(g.Depth)
	}
	return text
}

func grantsText(grants []impl.RoleGrant) string {
	var texts []string
	for _, g := range grants {
		texts = append(texts, grantText(g))
	}
	return strings.Join(texts, "; ")
}

func roleSessionsText(sessions []impl.RoleSession) string {
	var texts []string
	for _, s := range sessions {
		text := s.Id + " of " + s.User + " [" + strings.Join(s.Roles, " ") + "] {" + grantsText(s.Glass) + "}"
		if !s.Open {
			text += " closed"
		}
		texts = append(texts, text)
	}
	return strings.Join(texts, "; ")
}

func roleStateText(st impl.RoleState) string {
	return outcomesText(st.Outcomes) + " | " + grantsText(st.Grants) + " | " + roleSessionsText(st.Sessions) + " | " + strconv.Itoa(st.Time)
}

// firmHistory is a long one by firm, of which all comes out well.
func firmHistory() []impl.RoleEvent {
	return eventsOf(
		"1 assign ann boss", "1 assign bob payer", "2 assign cy auditor", "2 assign eve guard", "3 delegate ann dan boss 20", "3 delegate dan fay boss 15",
		"4 delegate bob cy payer 9", "4 open s ann", "4 open t cy", "5 open u fay", "5 activate s clerk", "5 activate s reader", "6 activate t payer", "6 activate t auditor",
		"6 activate u teller", "7 glass u payer 12", "7 assign fay reader", "8 open v eve", "8 activate v guard", "8 glass v payer 11", "9 drop s clerk", "9 revoke ann boss",
		"10 recall bob cy payer", "10 assign ann boss", "10 close t", "11 glass v payer 13",
	)
}

// drawnNamesOf are some of the names, in order.
func drawnNamesOf(from *rand.Rand, names []string, odds int) []string {
	var out []string
	for _, name := range names {
		if from.Intn(odds) == 0 {
			out = append(out, name)
		}
	}
	return out
}

// drawnRoleSet is good. What comes under a role may stand ahead of it or behind it.
func drawnRoleSet(from *rand.Rand) impl.RoleSet {
	names := []string{"a", "b", "c", "d", "e", "f", "g", "h"}[:2+from.Intn(7)]
	order := from.Perm(len(names))
	var s impl.RoleSet
	for i, name := range names {
		var below []string
		for j, other := range names {
			if order[j] < order[i] {
				below = append(below, other)
			}
		}
		s.Roles = append(s.Roles, impl.Role{Name: name, Under: drawnNamesOf(from, below, 4), Perms: drawnNamesOf(from, []string{"p", "q", "r", "s", "t"}, 3)})
	}
	for range from.Intn(5) {
		roles := drawnNamesOf(from, names, 2)
		if len(roles) > 1 {
			s.Parts = append(s.Parts, impl.Apart{Roles: roles, Most: 1 + from.Intn(len(roles)-1), Active: from.Intn(2) == 0})
		}
	}
	s.Glass = drawnNamesOf(from, names, 2)
	return s
}

// drawnEvent is most often one that may be done; times go on slowly.
func drawnEvent(from *rand.Rand, s impl.RoleSet, time int) impl.RoleEvent {
	users, sessions := []string{"ann", "bob", "cy", "dan"}, []string{"s", "t", "u"}
	e := impl.RoleEvent{Kind: oneOf(from, []int{1, 1, 1, 2, 3, 3, 3, 3, 3, 3, 4, 5, 5, 6, 6, 6, 6, 7, 8, 9, 9}), Time: time + oneOf(from, []int{0, 0, 0, 0, 0, 1, 1, 2, -1})}
	for _, field := range strings.Fields(fieldsOfEvents[e.Kind]) {
		switch field {
		case "User":
			e.User = oneOf(from, users)
		case "Other":
			e.Other = oneOf(from, users)
		case "Role":
			// Few roles are told often, so that there is something to delegate on.
			many := len(s.Roles)
			e.Role = s.Roles[min(from.Intn(many), from.Intn(many), from.Intn(many))].Name
		case "Session":
			e.Session = oneOf(from, sessions)
		case "Until":
			e.Until = e.Time + oneOf(from, []int{0, 1, 2, 5, 8, 20, 40, 1000, 1001, -1})
		}
	}
	if from.Intn(40) == 0 {
		spoilEvent(from, &e)
	}
	return e
}

func spoilEvent(from *rand.Rand, e *impl.RoleEvent) {
	word := oneOf(from, []string{"", "nobody", "a b", "a", "ann", "s"})
	switch from.Intn(7) {
	case 0:
		e.User = word
	case 1:
		e.Other = word
	case 2:
		e.Role = word
	case 3:
		e.Session = word
	case 4:
		e.Until = oneOf(from, []int{-1, 0, 1, 5, math.MaxInt})
	case 5:
		e.Time = oneOf(from, []int{-1, 0, impl.MaxTime + 1, math.MinInt})
	case 6:
		e.Kind = oneOf(from, []int{-1, 0, 1, 5, 9, 10})
	}
}

func drawnHistory(from *rand.Rand, s impl.RoleSet, many int) []impl.RoleEvent {
	var events []impl.RoleEvent
	time := from.Intn(3)
	for range many {
		e := drawnEvent(from, s, time)
		if isBetween(e.Time, time, time+2) {
			time = e.Time
		}
		events = append(events, e)
	}
	return events
}

// drawnRoleState may be one that no history makes.
func drawnRoleState(from *rand.Rand, s impl.RoleSet) impl.RoleState {
	names := append(roleNames(s), "nobody")
	users := []string{"ann", "bob", "cy", ""}
	grant := func() impl.RoleGrant {
		g := impl.RoleGrant{User: oneOf(from, users), Role: oneOf(from, names), Until: from.Intn(12), Depth: from.Intn(3), Since: from.Intn(9) - 2}
		if from.Intn(3) > 0 {
			g.From = oneOf(from, users)
		}
		return g
	}
	st := impl.RoleState{Time: from.Intn(4) - 1}
	for range from.Intn(14) {
		st.Grants = append(st.Grants, grant())
	}
	for range from.Intn(5) {
		own := impl.RoleSession{Id: oneOf(from, []string{"s", "s", "t", ""}), User: oneOf(from, users), Open: from.Intn(4) > 0}
		for range from.Intn(4) {
			own.Roles = append(own.Roles, oneOf(from, names))
		}
		for range from.Intn(3) {
			own.Glass = append(own.Glass, grant())
		}
		st.Sessions = append(st.Sessions, own)
	}
	return st
}

// hadOf is what users have, of lines: `ann x y`.
func hadOf(lines ...string) []impl.Had {
	var list []impl.Had
	for _, line := range lines {
		parts := strings.Fields(line)
		list = append(list, impl.Had{User: parts[0], Perms: parts[1:]})
	}
	return list
}

func minedText(roles []impl.Role) string {
	var texts []string
	for _, r := range roles {
		text := r.Name + ":" + strings.Join(r.Perms, " ")
		if len(r.Under) > 0 {
			text += " > " + strings.Join(r.Under, " ")
		}
		texts = append(texts, text)
	}
	return strings.Join(texts, "; ")
}

// countedHads are so many users with so many perms each, all in common but one.
func countedHads(users int, perms int) []impl.Had {
	var list []impl.Had
	for i, user := range countedNames(users) {
		own := append(countedNames(perms-1), "own"+strconv.Itoa(i))
		list = append(list, impl.Had{User: user, Perms: own})
	}
	return list
}

func drawnHads(from *rand.Rand, users int, perms int) []impl.Had {
	var list []impl.Had
	for _, user := range countedNames(users) {
		own := drawnNamesOf(from, countedNames(perms), 1+from.Intn(3))
		if len(own) > 0 {
			list = append(list, impl.Had{User: user, Perms: own})
		}
	}
	return list
}

func copiedHads(list []impl.Had) []impl.Had {
	out := slices.Clone(list)
	for i, h := range out {
		out[i].Perms = slices.Clone(h.Perms)
	}
	return out
}

func goodHads() [][]impl.Had {
	long := longName("n")
	return [][]impl.Had{
		nil, {}, hadOf("a x"), hadOf("a x y", "b x y z"), hadOf("A a", "Z a", "_ a", "a a", "a1 a", "aa A Z _ a a1 aa"), hadOf(long + " " + long),
		countedHads(20, 20), countedHads(20, 1), countedHads(1, 20), hadOf("a x", "b y", "c z"), hadOf("a x y", "b y z", "c x z"),
	}
}

// badHads are made of a good list by a change each.
func badHads() [][]impl.Had {
	bad := [][]impl.Had{countedHads(21, 2), countedHads(3000, 1), countedHads(2, 21), countedHads(1, 3000), make([]impl.Had, 1), make([]impl.Had, 100000)}
	add := func(change func(list []impl.Had)) {
		list := copiedHads(hadOf("ann w x y", "bob w x", "cy x y z"))
		change(list)
		bad = append(bad, list)
	}
	for at := range 3 {
		for _, word := range badWords() {
			add(func(list []impl.Had) { list[at].User = word })
			add(func(list []impl.Had) { list[at].Perms[0] = word })
			add(func(list []impl.Had) { list[at].Perms[1] = word })
		}
		add(func(list []impl.Had) { list[at].Perms = nil })
		add(func(list []impl.Had) { list[at].Perms = []string{} })
		for _, perms := range []string{"b a", "a a", "a b b", "a c b", "a1 a", "a A"} {
			add(func(list []impl.Had) { list[at].Perms = strings.Fields(perms) })
		}
	}
	add(func(list []impl.Had) { list[0].User = "bob" })
	add(func(list []impl.Had) { list[0].User = "c" })
	add(func(list []impl.Had) { list[1].User = "cy" })
	add(func(list []impl.Had) { list[1].User = "Bob" })
	add(func(list []impl.Had) { list[2].User = "bob" })
	add(func(list []impl.Had) { list[2].User = "bo" })
	return bad
}
