package tests

import (
	"slices"
	"strconv"
	"strings"

	"loop.example/g00036/impl"
)

// What the document says of chapter 15, worked out in other ways than the program does: roles that are taken off a set from below, grants and sessions that are looked up anew in the events that were done well, grants that count by asking for what is behind them, pairs of users and perms as texts.

func areNamesByWords(names []string) bool {
	return risesByWords(names) && !slices.ContainsFunc(names, func(name string) bool { return !changeName.MatchString(name) })
}

func roleNames(s impl.RoleSet) []string {
	var names []string
	for _, r := range s.Roles {
		names = append(names, r.Name)
	}
	return names
}

func areAllIn(list []string, names []string) bool {
	return !slices.ContainsFunc(list, func(name string) bool { return !slices.Contains(names, name) })
}

// underEnds takes off, again and again, the roles that have nothing left under them.
func underEnds(s impl.RoleSet) bool {
	left := slices.Clone(s.Roles)
	for range s.Roles {
		names := roleNames(impl.RoleSet{Roles: left})
		left = slices.DeleteFunc(left, func(r impl.Role) bool {
			return !slices.ContainsFunc(r.Under, func(name string) bool { return slices.Contains(names, name) })
		})
	}
	return len(left) == 0
}

func goodRoleSetByWords(s impl.RoleSet) bool {
	names := roleNames(s)
	if len(names) > 30 || !areNamesByWords(names) || len(s.Parts) > 10 {
		return false
	}
	told := func(list []string) bool { return risesByWords(list) && areAllIn(list, names) }
	for _, r := range s.Roles {
		if !told(r.Under) || len(r.Perms) > 20 || !areNamesByWords(r.Perms) {
			return false
		}
	}
	for _, p := range s.Parts {
		if len(p.Roles) < 2 || !told(p.Roles) || !isBetween(p.Most, 1, len(p.Roles)-1) {
			return false
		}
	}
	return told(s.Glass) && underEnds(s)
}

// juniorsByWords takes a good set, and any names.
func juniorsByWords(s impl.RoleSet, roles ...string) []string {
	var found []string
	for len(roles) > 0 {
		var next []string
		for _, r := range s.Roles {
			if slices.Contains(roles, r.Name) {
				found = append(found, r.Name)
				next = append(next, r.Under...)
			}
		}
		roles = next
	}
	slices.Sort(found)
	return slices.Compact(found)
}

func countsByWords(grants []impl.RoleGrant, g impl.RoleGrant, time int) bool {
	if time > g.Until || g.From == "" {
		return time <= g.Until
	}
	return slices.ContainsFunc(grants, func(other impl.RoleGrant) bool {
		return other.User == g.From && other.Role == g.Role && other.Depth < g.Depth && countsByWords(grants, other, time)
	})
}

func authorisedByWords(s impl.RoleSet, grants []impl.RoleGrant, user string, time int) []string {
	var roles []string
	for _, g := range grants {
		if g.User == user && countsByWords(grants, g, time) {
			roles = append(roles, g.Role)
		}
	}
	return juniorsByWords(s, roles...)
}

// mayComeToBeByWords has the roles that are told, too.
func mayComeToBeByWords(s impl.RoleSet, grants []impl.RoleGrant, user string, time int, more ...string) []string {
	for _, g := range grants {
		if g.User == user && g.Until >= time {
			more = append(more, g.Role)
		}
	}
	return juniorsByWords(s, more...)
}

func apartByWords(s impl.RoleSet, roles []string, active bool) bool {
	for _, p := range s.Parts {
		both := slices.DeleteFunc(slices.Clone(p.Roles), func(role string) bool { return !slices.Contains(roles, role) })
		if p.Active == active && len(both) > p.Most {
			return false
		}
	}
	return true
}

// doneEvent is an event that was done well, with its number and, if it delegates, the Depth of its grant.
type doneEvent struct {
	impl.RoleEvent
	number int
	depth  int
}

// wordHistory is all events that were done well: what there is behind them is looked up there.
type wordHistory struct {
	set  impl.RoleSet
	done []doneEvent
}

// isOver says whether an event behind that of the place took away, or put in anew, what it put in.
func (h wordHistory) isOver(at int) bool {
	e := h.done[at]
	return slices.ContainsFunc(h.done[at+1:], func(later doneEvent) bool {
		same := later.User == e.User && later.Other == e.Other && later.Role == e.Role && later.Session == e.Session
		switch e.Kind {
		case impl.EventAssign:
			return same && later.Kind == impl.EventRevoke
		case impl.EventDelegate:
			return same && (later.Kind == impl.EventRecall || later.Kind == impl.EventDelegate)
		}
		return same && later.Kind == impl.EventDrop
	})
}

func (e doneEvent) grant() impl.RoleGrant {
	if e.Kind == impl.EventDelegate {
		return impl.RoleGrant{User: e.Other, Role: e.Role, From: e.User, Until: e.Until, Depth: e.depth, Since: e.Time}
	}
	return impl.RoleGrant{User: e.User, Role: e.Role, Until: 100000000000, Since: e.Time}
}

// grants are told with the numbers of the events that put them in.
func (h wordHistory) grants() ([]impl.RoleGrant, []int) {
	var grants []impl.RoleGrant
	var numbers []int
	for at, e := range h.done {
		if (e.Kind == impl.EventAssign || e.Kind == impl.EventDelegate) && !h.isOver(at) {
			grants, numbers = append(grants, e.grant()), append(numbers, e.number)
		}
	}
	return grants, numbers
}

func (h wordHistory) session(open doneEvent) impl.RoleSession {
	s := impl.RoleSession{Id: open.Session, User: open.User, Open: true}
	for at, e := range h.done {
		if e.Session != open.Session {
			continue
		}
		switch e.Kind {
		case impl.EventActivate:
			if !h.isOver(at) {
				s.Roles = append(s.Roles, e.Role)
			}
		case impl.EventGlass:
			s.Glass = append(s.Glass, impl.RoleGrant{User: open.User, Role: e.Role, Until: e.Until, Since: e.Time})
		case impl.EventClose:
			s.Open = false
		}
	}
	slices.Sort(s.Roles)
	return s
}

func (h wordHistory) sessions() []impl.RoleSession {
	var sessions []impl.RoleSession
	for _, e := range h.done {
		if e.Kind == impl.EventOpen {
			sessions = append(sessions, h.session(e))
		}
	}
	return sessions
}

func (h wordHistory) time() int {
	if len(h.done) == 0 {
		return 0
	}
	return h.done[len(h.done)-1].Time
}

// fieldsOfEvents are, for each kind, the fields that are told.
var fieldsOfEvents = map[int]string{
	impl.EventAssign: "User Role", impl.EventRevoke: "User Role", impl.EventDelegate: "User Other Role Until", impl.EventRecall: "User Other Role",
	impl.EventOpen: "Session User", impl.EventActivate: "Session Role", impl.EventDrop: "Session Role", impl.EventClose: "Session", impl.EventGlass: "Session Role Until",
}

func isBadByWords(s impl.RoleSet, e impl.RoleEvent) bool {
	told := strings.Fields(fieldsOfEvents[e.Kind])
	if len(told) == 0 || e.Time < 0 || e.Time > 100000000000 {
		return true
	}
	for field, text := range map[string]string{"User": e.User, "Other": e.Other, "Session": e.Session, "Role": e.Role} {
		good := changeName.MatchString(text)
		if field == "Role" {
			good = slices.Contains(roleNames(s), text)
		}
		if !slices.Contains(told, field) {
			good = text == ""
		}
		if !good {
			return true
		}
	}
	if !slices.Contains(told, "Until") {
		return e.Until != 0
	}
	return e.Until < e.Time || e.Kind == impl.EventDelegate && e.User == e.Other
}

// leastDepth is -1 where no grant counts.
func leastDepth(grants []impl.RoleGrant, user string, role string, time int) int {
	for depth := range 3 {
		if slices.ContainsFunc(grants, func(g impl.RoleGrant) bool {
			return g.User == user && g.Role == role && g.Depth == depth && countsByWords(grants, g, time)
		}) {
			return depth
		}
	}
	return -1
}

func glassByWords(s impl.RoleSession, time int) []string {
	var roles []string
	for _, g := range s.Glass {
		if g.Until >= time {
			roles = append(roles, g.Role)
		}
	}
	return roles
}

// first is the first outcome whose test holds, in the order in which they are told.
func first(tests ...any) int {
	for i := 0; i < len(tests); i += 2 {
		if tests[i+1].(bool) {
			return tests[i].(int)
		}
	}
	return impl.DoneWell
}

func (h wordHistory) grantOutcome(e impl.RoleEvent) (int, int) {
	grants, _ := h.grants()
	isThere := func(user, role, from string) bool {
		return slices.ContainsFunc(grants, func(g impl.RoleGrant) bool { return g.User == user && g.Role == role && g.From == from })
	}
	isCrowded := func(user string) bool {
		return !apartByWords(h.set, mayComeToBeByWords(h.set, grants, user, e.Time, e.Role), false)
	}
	depth := leastDepth(grants, e.User, e.Role, e.Time)
	switch e.Kind {
	case impl.EventAssign:
		return first(impl.DoneNothing, isThere(e.User, e.Role, ""), impl.DoneApart, isCrowded(e.User)), 0
	case impl.EventRevoke:
		return first(impl.DoneNothing, !isThere(e.User, e.Role, "")), 0
	case impl.EventDelegate:
		return first(impl.DoneForbidden, depth == -1, impl.DoneLimit, depth == 2, impl.DoneApart, isCrowded(e.Other)), depth + 1
	}
	return first(impl.DoneNothing, !isThere(e.Other, e.Role, e.User)), 0
}

func (h wordHistory) sessionOutcome(e impl.RoleEvent) int {
	grants, _ := h.grants()
	var own impl.RoleSession
	for _, s := range h.sessions() {
		if s.Id == e.Session {
			own = s
		}
	}
	has := slices.Contains(own.Roles, e.Role)
	may := slices.Contains(authorisedByWords(h.set, grants, own.User, e.Time), e.Role)
	crowded := !apartByWords(h.set, juniorsByWords(h.set, slices.Concat(own.Roles, glassByWords(own, e.Time), []string{e.Role})...), true)
	switch e.Kind {
	case impl.EventOpen:
		return first(impl.DoneNothing, own.Id != "")
	case impl.EventActivate:
		return first(impl.DoneForbidden, !own.Open, impl.DoneForbidden, !may, impl.DoneNothing, has, impl.DoneApart, crowded)
	case impl.EventDrop:
		return first(impl.DoneNothing, !own.Open, impl.DoneNothing, !has)
	case impl.EventClose:
		return first(impl.DoneNothing, !own.Open)
	}
	return first(impl.DoneForbidden, !own.Open, impl.DoneForbidden, !slices.Contains(h.set.Glass, e.Role), impl.DoneLimit, e.Until > e.Time+1000, impl.DoneApart, crowded)
}

// outcome is told with the Depth of the grant, if the event delegates.
func (h wordHistory) outcome(e impl.RoleEvent) (int, int) {
	if isBadByWords(h.set, e) {
		return impl.DoneBad, 0
	}
	if e.Time < h.time() {
		return impl.DoneTime, 0
	}
	if e.Session == "" {
		return h.grantOutcome(e)
	}
	return h.sessionOutcome(e), 0
}

// runByWords answers false where nothing is told.
func runByWords(s impl.RoleSet, events []impl.RoleEvent) (wordHistory, []int, bool) {
	h := wordHistory{set: s}
	if !goodRoleSetByWords(s) || len(events) > 200 {
		return h, nil, false
	}
	var outcomes []int
	for number, e := range events {
		outcome, depth := h.outcome(e)
		outcomes = append(outcomes, outcome)
		if outcome == impl.DoneWell {
			h.done = append(h.done, doneEvent{e, number, depth})
		}
	}
	return h, outcomes, true
}

func stateByWords(s impl.RoleSet, events []impl.RoleEvent) impl.RoleState {
	h, outcomes, ok := runByWords(s, events)
	if !ok {
		return impl.RoleState{}
	}
	grants, _ := h.grants()
	return impl.RoleState{Outcomes: outcomes, Grants: grants, Sessions: h.sessions(), Time: h.time()}
}

func unusedByWords(s impl.RoleSet, events []impl.RoleEvent) []impl.RoleGrant {
	h, _, ok := runByWords(s, events)
	if !ok {
		return nil
	}
	users := map[string]string{}
	for _, own := range h.sessions() {
		users[own.Id] = own.User
	}
	grants, numbers := h.grants()
	var unused []impl.RoleGrant
	for i, g := range grants {
		isUse := func(e doneEvent) bool {
			return e.Kind == impl.EventActivate && e.number > numbers[i] && users[e.Session] == g.User && slices.Contains(juniorsByWords(s, g.Role), e.Role)
		}
		if !slices.ContainsFunc(h.done, isUse) {
			unused = append(unused, g)
		}
	}
	return unused
}

func isAskedByWords(s impl.RoleSet, st impl.RoleState, time int) bool {
	if !goodRoleSetByWords(s) || time < st.Time {
		return false
	}
	all := len(st.Grants) + len(st.Sessions)
	for _, own := range st.Sessions {
		all += len(own.Roles) + len(own.Glass)
	}
	for _, g := range st.Grants {
		if !slices.Contains([]int{0, 1, 2}, g.Depth) {
			return false
		}
	}
	return all <= 300
}

func toldAuthorised(s impl.RoleSet, st impl.RoleState, user string, time int) []string {
	if !isAskedByWords(s, st, time) {
		return nil
	}
	return authorisedByWords(s, st.Grants, user, time)
}

func standingByWords(s impl.RoleSet, st impl.RoleState, own impl.RoleSession, time int) []string {
	may := authorisedByWords(s, st.Grants, own.User, time)
	roles := slices.DeleteFunc(slices.Clone(own.Roles), func(role string) bool { return !slices.Contains(may, role) })
	return juniorsByWords(s, append(roles, glassByWords(own, time)...)...)
}

// permsByWords are what may be done in the open sessions of that Id, rising.
func permsByWords(s impl.RoleSet, st impl.RoleState, session string, time int) []string {
	if !isAskedByWords(s, st, time) {
		return nil
	}
	var perms []string
	for _, own := range st.Sessions {
		if own.Id != session || !own.Open {
			continue
		}
		standing := standingByWords(s, st, own, time)
		for _, r := range s.Roles {
			if slices.Contains(standing, r.Name) {
				perms = append(perms, r.Perms...)
			}
		}
	}
	slices.Sort(perms)
	return slices.Compact(perms)
}

func keptApartByWords(s impl.RoleSet, st impl.RoleState, time int) bool {
	if !isAskedByWords(s, st, time) {
		return false
	}
	users := map[string]int{}
	for _, g := range st.Grants {
		users[g.User]++
	}
	for user := range users {
		if !apartByWords(s, authorisedByWords(s, st.Grants, user, time), false) {
			return false
		}
	}
	for _, own := range st.Sessions {
		if own.Open && !apartByWords(s, standingByWords(s, st, own, time), true) {
			return false
		}
	}
	return true
}

func goodHadsByWords(list []impl.Had) bool {
	var users []string
	for _, h := range list {
		if !isBetween(len(h.Perms), 1, 20) || !areNamesByWords(h.Perms) {
			return false
		}
		users = append(users, h.User)
	}
	return len(list) <= 20 && areNamesByWords(users)
}

// minedPerms are all sets that may become roles, each once, by their texts.
func minedPerms(list []impl.Had) map[string][]string {
	sets := map[string][]string{}
	for _, a := range list {
		for _, b := range list {
			both := slices.DeleteFunc(slices.Clone(a.Perms), func(perm string) bool { return !slices.Contains(b.Perms, perm) })
			if len(both) > 0 {
				sets[strings.Join(append(both, ""), ",")] = both
			}
		}
	}
	return sets
}

// newPairs are the pairs of a user and a perm, as texts, that the set makes up.
func newPairs(list []impl.Had, given map[string]int, perms []string) []string {
	var pairs []string
	for _, h := range list {
		if !areAllIn(perms, h.Perms) {
			continue
		}
		for _, perm := range perms {
			if pair := h.User + " " + perm; given[pair] == 0 {
				pairs = append(pairs, pair)
			}
		}
	}
	return pairs
}

func mineByWords(list []impl.Had) []impl.Role {
	if !goodHadsByWords(list) {
		return nil
	}
	sets, given := minedPerms(list), map[string]int{}
	var roles []impl.Role
	for {
		best, most := "", 0
		for text, perms := range sets {
			many := len(newPairs(list, given, perms))
			longer := len(perms) - len(sets[best])
			if many > most || many == most && many > 0 && (longer > 0 || longer == 0 && text < best) {
				best, most = text, many
			}
		}
		if most == 0 {
			return roles
		}
		for _, pair := range newPairs(list, given, sets[best]) {
			given[pair]++
		}
		roles = append(roles, impl.Role{Name: "R" + strconv.Itoa(len(roles)+1), Perms: sets[best]})
	}
}

func sameRole(a impl.Role, b impl.Role) bool {
	return a.Name == b.Name && slices.Equal(a.Under, b.Under) && slices.Equal(a.Perms, b.Perms)
}

func sameRoleSession(a impl.RoleSession, b impl.RoleSession) bool {
	return a.Id == b.Id && a.User == b.User && a.Open == b.Open && slices.Equal(a.Roles, b.Roles) && slices.Equal(a.Glass, b.Glass)
}

func sameHoldings(a impl.RoleState, b impl.RoleState) bool {
	return slices.Equal(a.Grants, b.Grants) && slices.EqualFunc(a.Sessions, b.Sessions, sameRoleSession) && a.Time == b.Time
}

func sameRoleState(a impl.RoleState, b impl.RoleState) bool {
	return slices.Equal(a.Outcomes, b.Outcomes) && sameHoldings(a, b)
}
