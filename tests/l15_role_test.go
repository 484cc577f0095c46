package tests

import (
	"math"
	"slices"
	"strconv"
	"strings"
	"testing"

	"loop.example/g00036/impl"
)

func TestConstantsOfRoles(t *testing.T) {
	limits := []int{impl.MaxRoles, impl.MaxEvents, impl.MaxDepth, impl.MaxGlass}
	if !slices.Equal(limits, []int{30, 200, 2, 1000}) {
		t.Errorf("limits: got %v", limits)
	}
	events := []int{impl.EventAssign, impl.EventRevoke, impl.EventDelegate, impl.EventRecall, impl.EventOpen, impl.EventActivate, impl.EventDrop, impl.EventClose, impl.EventGlass}
	if !slices.Equal(events, []int{1, 2, 3, 4, 5, 6, 7, 8, 9}) {
		t.Errorf("kinds of events: got %v", events)
	}
	outcomes := []int{impl.DoneWell, impl.DoneBad, impl.DoneTime, impl.DoneNothing, impl.DoneForbidden, impl.DoneApart, impl.DoneLimit}
	if !slices.Equal(outcomes, []int{0, 1, 2, 3, 4, 5, 6}) {
		t.Errorf("outcomes: got %v", outcomes)
	}
}

func TestGoodRoleSet(t *testing.T) {
	for i, s := range goodRoleSets() {
		if !impl.GoodRoleSet(s) || !goodRoleSetByWords(s) {
			t.Errorf("set %d, %.300s: want true", i, shown(s))
		}
	}
	for i, s := range badRoleSets() {
		if impl.GoodRoleSet(s) || goodRoleSetByWords(s) {
			t.Errorf("set %d, %.300s: want false", i, shown(s))
		}
	}
}

func TestRoleSetsWithEachByte(t *testing.T) {
	for b := range 256 {
		s := string([]byte{byte(b)})
		begins := isBetween(b, 'a', 'z') || isBetween(b, 'A', 'Z') || b == '_'
		for text, want := range map[string]bool{s: begins, s + "1": begins, "a" + s: begins || isBetween(b, '0', '9'), "a" + s + "b": begins || isBetween(b, '0', '9')} {
			if got := impl.GoodRoleSet(impl.RoleSet{Roles: []impl.Role{{Name: text}}}); got != want {
				t.Errorf("a role named %q: got %v", text, got)
			}
			if got := impl.GoodRoleSet(impl.RoleSet{Roles: []impl.Role{{Name: "r", Perms: []string{text}}}}); got != want {
				t.Errorf("a perm %q: got %v", text, got)
			}
			e := impl.RoleEvent{Kind: impl.EventOpen, User: text, Session: text}
			if got := askPromise(t, impl.RoleSet{}, []impl.RoleEvent{e}); (got.Outcomes[0] == impl.DoneWell) != want {
				t.Errorf("a user %q: got %v", text, got.Outcomes)
			}
		}
	}
}

func TestListsOfRoleSetsRise(t *testing.T) {
	names := []string{"A", "A1", "B", "_", "a", "a1", "ab", "b"}
	whole := impl.RoleSet{}
	for _, name := range names {
		whole.Roles = append(whole.Roles, impl.Role{Name: name})
	}
	for i, a := range names {
		for j, b := range names {
			for k, c := range names {
				list, want := []string{a, b, c}, i < j && j < k
				roles := impl.RoleSet{Roles: []impl.Role{{Name: a}, {Name: b}, {Name: c}}}
				perms, parts, glass, under := copiedRoleSet(whole), copiedRoleSet(whole), copiedRoleSet(whole), copiedRoleSet(whole)
				perms.Roles[3].Perms = list
				parts.Parts = []impl.Apart{{Roles: list, Most: 1}}
				glass.Glass = list
				under.Roles = append(under.Roles, impl.Role{Name: "c", Under: list})
				for what, s := range map[string]impl.RoleSet{"Roles": roles, "Perms": perms, "a Part": parts, "Glass": glass, "Under": under} {
					if got := impl.GoodRoleSet(s); got != want {
						t.Errorf("%s %q: got %v", what, list, got)
					}
				}
			}
		}
	}
}

// All ways in which three roles may be under each other, and themselves.
func TestGoodRoleSetOfAllUnders(t *testing.T) {
	names, good := []string{"a", "b", "c"}, 0
	for bits := range 1 << 9 {
		var s impl.RoleSet
		for i, name := range names {
			r := impl.Role{Name: name}
			for j, other := range names {
				if bits>>(3*i+j)&1 == 1 {
					r.Under = append(r.Under, other)
				}
			}
			s.Roles = append(s.Roles, r)
		}
		want := goodRoleSetByWords(s)
		if impl.GoodRoleSet(s) != want {
			t.Errorf("GoodRoleSet(%s): want %v", shown(s), want)
		}
		askJuniors(t, s)
		if want {
			good++
		}
	}
	if good != 25 {
		t.Errorf("%d sets are good by the words, want 25", good)
	}
}

// askJuniors holds JuniorsOf of all names against the words.
func askJuniors(t *testing.T, s impl.RoleSet) {
	t.Helper()
	good := goodRoleSetByWords(s)
	for _, name := range append(roleNames(s), "", "nobody", "R", "a b") {
		var want []string
		if good {
			want = juniorsByWords(s, name)
		}
		if got := impl.JuniorsOf(s, name); !slices.Equal(got, want) {
			t.Errorf("JuniorsOf(%.300s, %q): got %q, want %q", shown(s), name, got, want)
		}
	}
}

func TestJuniorsOf(t *testing.T) {
	for role, want := range map[string]string{
		"auditor": "auditor", "boss": "boss clerk reader teller", "chief": "boss chief clerk reader teller", "clerk": "clerk reader", "guard": "guard", "payer": "payer", "reader": "reader", "teller": "reader teller",
		"": "", "nobody": "", "Boss": "", "audit": "", "bos": "", "boss ": "",
	} {
		if got := strings.Join(impl.JuniorsOf(firm(), role), " "); got != want {
			t.Errorf("JuniorsOf %q: got %q, want %q", role, got, want)
		}
	}
	for many := 1; many <= impl.MaxRoles; many++ {
		for _, s := range []impl.RoleSet{chainedRoles(many, false), heapOfRoles(many)} {
			if got := impl.JuniorsOf(s, countedRole(0)); !slices.Equal(got, roleNames(s)) {
				t.Errorf("JuniorsOf the first of %d: got %q", many, got)
			}
		}
		turned := chainedRoles(many, true)
		if got := impl.JuniorsOf(turned, countedRole(many-1)); !slices.Equal(got, roleNames(turned)) {
			t.Errorf("JuniorsOf the last of %d: got %q", many, got)
		}
	}
	for _, s := range slices.Concat(goodRoleSets(), badRoleSets()) {
		if len(s.Roles) < 100 {
			askJuniors(t, s)
		}
	}
	from := drawn()
	for range 300 {
		askJuniors(t, drawnRoleSet(from))
	}
}

// laterTimes are the times not below the state's own at which a grant is there for the last time, and those right behind: at any other later time there is what there is at one of these.
func laterTimes(st impl.RoleState) []int {
	times := []int{st.Time, st.Time + 1, impl.MaxTime, impl.MaxTime + 1, math.MaxInt}
	grants := slices.Clone(st.Grants)
	for _, s := range st.Sessions {
		grants = append(grants, s.Glass...)
	}
	for _, g := range grants {
		times = append(times, g.Until, g.Until+min(1, math.MaxInt-g.Until))
	}
	times = slices.DeleteFunc(times, func(time int) bool { return time < st.Time })
	slices.Sort(times)
	return slices.Compact(times)
}

// askRoleState holds what is told of a state at a time against the words, for all that stand in it.
func askRoleState(t *testing.T, s impl.RoleSet, st impl.RoleState, time int) {
	t.Helper()
	users, ids, perms := []string{"", "nobody"}, []string{"", "nobody"}, []string{"", "nothing"}
	for _, g := range st.Grants {
		users = append(users, g.User)
	}
	for _, own := range st.Sessions {
		users, ids = append(users, own.User), append(ids, own.Id)
	}
	for _, r := range s.Roles {
		perms = append(perms, r.Perms...)
	}
	slices.Sort(users)
	slices.Sort(ids)
	slices.Sort(perms)
	for _, user := range slices.Compact(users) {
		if got, want := impl.Authorised(s, st, user, time), toldAuthorised(s, st, user, time); !slices.Equal(got, want) {
			t.Fatalf("Authorised(%.600s; %s; %q, %d): got %q, want %q", shown(s), roleStateText(st), user, time, got, want)
		}
	}
	perms = slices.Compact(perms)
	for _, id := range slices.Compact(ids) {
		want := permsByWords(s, st, id, time)
		for _, perm := range perms {
			if got := impl.MayDo(s, st, id, perm, time); got != slices.Contains(want, perm) {
				t.Fatalf("MayDo(%.600s; %s; %q, %q, %d): got %v", shown(s), roleStateText(st), id, perm, time, got)
			}
		}
	}
	if got, want := impl.KeptApart(s, st, time), keptApartByWords(s, st, time); got != want {
		t.Fatalf("KeptApart(%.600s; %s; %d): got %v", shown(s), roleStateText(st), time, got)
	}
}

// withoutUndone are the events that were done well.
func withoutUndone(events []impl.RoleEvent, outcomes []int) []impl.RoleEvent {
	var well []impl.RoleEvent
	for i, e := range events {
		if outcomes[i] == impl.DoneWell {
			well = append(well, e)
		}
	}
	return well
}

// askPromise asks of a history what the chapter promises: duties are apart now and at every later time, and without what was not done well it comes to the same.
func askPromise(t *testing.T, s impl.RoleSet, events []impl.RoleEvent) impl.RoleState {
	t.Helper()
	st := impl.RunRoles(s, events)
	if len(st.Outcomes) != len(events) {
		t.Fatalf("%d outcomes of %d events", len(st.Outcomes), len(events))
	}
	for _, time := range laterTimes(st) {
		if !impl.KeptApart(s, st, time) || !keptApartByWords(s, st, time) {
			t.Fatalf("%.600s; %s: not apart at %d", shown(s), roleStateText(st), time)
		}
	}
	well := withoutUndone(events, st.Outcomes)
	short := impl.RunRoles(s, well)
	if !sameHoldings(short, st) || slices.ContainsFunc(short.Outcomes, func(outcome int) bool { return outcome != impl.DoneWell }) || len(short.Outcomes) != len(well) {
		t.Fatalf("%.600s; %s: without what was not done well it comes to %s", shown(s), roleStateText(st), roleStateText(short))
	}
	if got := impl.Unused(s, well); !slices.Equal(got, impl.Unused(s, events)) {
		t.Fatalf("%.600s; %s: without what was not done well there are unused %s", shown(s), roleStateText(st), grantsText(got))
	}
	return st
}

// askHistory holds all that is told of a history against the words, and asks for the promise.
func askHistory(t *testing.T, s impl.RoleSet, events []impl.RoleEvent) impl.RoleState {
	t.Helper()
	if got, want := impl.RunRoles(s, events), stateByWords(s, events); !sameRoleState(got, want) {
		t.Fatalf("RunRoles(%.600s, %.2000s):\ngot  %s\nwant %s", shown(s), shown(events), roleStateText(got), roleStateText(want))
	}
	if got, want := impl.Unused(s, events), unusedByWords(s, events); !slices.Equal(got, want) {
		t.Fatalf("Unused(%.600s, %.2000s):\ngot  %s\nwant %s", shown(s), shown(events), grantsText(got), grantsText(want))
	}
	st := askPromise(t, s, events)
	for _, time := range append(laterTimes(st), st.Time-1) {
		askRoleState(t, s, st, time)
	}
	return st
}

// toldHistory is one with what comes of it: each may be told as no more than a part.
type toldHistory struct {
	name     string
	set      impl.RoleSet
	lines    []string
	grants   string
	sessions string
}

func (h toldHistory) ask(t *testing.T) {
	t.Helper()
	events, outcomes := historyOf(h.lines...)
	st := askHistory(t, h.set, events)
	if !slices.Equal(st.Outcomes, outcomes) {
		t.Errorf("%s:\ngot  %s\nwant %s", h.name, outcomesText(st.Outcomes), outcomesText(outcomes))
	}
	if got := grantsText(st.Grants); got != h.grants {
		t.Errorf("%s: got the grants %s, want %s", h.name, got, h.grants)
	}
	if got := roleSessionsText(st.Sessions); got != h.sessions {
		t.Errorf("%s: got the sessions %s, want %s", h.name, got, h.sessions)
	}
}

func TestFirmHistory(t *testing.T) {
	st := askHistory(t, firm(), firmHistory())
	if slices.ContainsFunc(st.Outcomes, func(outcome int) bool { return outcome != impl.DoneWell }) || st.Time != 11 {
		t.Errorf("got %s at %d", outcomesText(st.Outcomes), st.Time)
	}
	grants := "bob payer @1; cy auditor @2; eve guard @2; dan boss @3 <ann .20 /1; fay boss @3 <dan .15 /2; fay reader @7; ann boss @10"
	if got := grantsText(st.Grants); got != grants {
		t.Errorf("grants: got %s", got)
	}
	sessions := "s of ann [reader] {}; t of cy [auditor payer] {} closed; u of fay [teller] {fay payer @7 < .12 /0}; v of eve [guard] {eve payer @8 < .11 /0; eve payer @11 < .13 /0}"
	if got := roleSessionsText(st.Sessions); got != sessions {
		t.Errorf("sessions: got %s", got)
	}
	for many := range firmHistory() {
		askHistory(t, firm(), firmHistory()[:many])
	}
}

// Each kind of event comes to each outcome that it may have.
func TestOutcomesOfEachKind(t *testing.T) {
	ahead := []string{
		"5 assign ann b", "5 assign bob c", "5 assign cy a", "5 assign cy d", "5 delegate ann dan b 50", "5 delegate dan eve b 50", "5 open s cy", "5 activate s b", "5 open t ann", "5 open u ann", "5 activate u b", "5 close u",
	}
	found := map[string][]string{}
	for _, line := range []string{
		"5 assign fay a = well", "6 assign nobody c = well", "4 assign fay a = time", "5 assign ann b = nothing", "5 assign ann c = apart", "5 assign cy c = apart", "5 assign bob a = apart", "5 assign eve c = apart",
		"5 revoke ann b = well", "4 revoke ann b = time", "5 revoke ann a = nothing", "5 revoke dan b = nothing", "5 revoke fay b = nothing",
		"5 delegate ann fay b 5 = well", "4 delegate ann fay b 9 = time", "5 delegate cy fay b 9 = forbidden", "5 delegate fay ann b 9 = forbidden", "51 delegate dan fay b 99 = forbidden", "5 delegate eve fay b 9 = limit", "5 delegate ann bob b 9 = apart", "5 delegate cy bob a 9 = apart", "5 delegate bob eve c 9 = apart",
		"5 recall ann dan b = well", "4 recall ann dan b = time", "5 recall dan ann b = nothing", "5 recall ann eve b = nothing", "5 recall ann dan a = nothing", "5 recall ann ann b = nothing",
		"5 open v ann = well", "4 open v ann = time", "5 open s cy = nothing", "5 open s ann = nothing", "5 open u bob = nothing",
		"5 activate s a = well", "5 activate t b = well", "4 activate s a = time", "5 activate s c = forbidden", "5 activate t a = forbidden", "5 activate u b = forbidden", "5 activate v b = forbidden", "5 activate s b = nothing", "5 activate s d = apart",
		"5 drop s b = well", "4 drop s b = time", "5 drop s a = nothing", "5 drop t b = nothing", "5 drop u b = nothing", "5 drop v b = nothing",
		"5 close s = well", "4 close s = time", "5 close u = nothing", "5 close v = nothing",
		"5 glass s c 5 = well", "5 glass t d 1005 = well", "4 glass s c 9 = time", "5 glass s b 9 = forbidden", "5 glass u c 9 = forbidden", "5 glass v c 9 = forbidden", "5 glass s c 1006 = limit", "5 glass s d 9 = apart",
	} {
		events, outcomes := historyOf(append(slices.Clone(ahead), line)...)
		if st := askHistory(t, bank(), events); !slices.Equal(st.Outcomes, outcomes) {
			t.Errorf("%s: got %s", line, outcomesText(st.Outcomes))
		}
		parts := strings.Fields(line)
		found[parts[1]] = append(found[parts[1]], parts[len(parts)-1])
	}
	for kind, outcomes := range outcomesOfEvents {
		for _, outcome := range strings.Fields(outcomes) {
			if outcome != "bad" && !slices.Contains(found[kind], outcome) {
				t.Errorf("%s: no event comes to %s", kind, outcome)
			}
		}
	}
}

// eachKind is an event of each kind behind a history by bank: it is done well there.
func eachKind() ([]impl.RoleEvent, []impl.RoleEvent) {
	ahead := eventsOf("5 assign ann a", "5 delegate ann bob a 50", "5 open s ann", "5 activate s b")
	return ahead, eventsOf("7 assign cy a", "7 revoke ann a", "7 delegate ann cy a 9", "7 recall ann bob a", "7 open t ann", "7 activate s a", "7 drop s b", "7 close s", "7 glass s c 9")
}

// askEach asks for the outcome of an event of each kind that was changed.
func askEach(t *testing.T, what string, want int, change func(e *impl.RoleEvent)) {
	t.Helper()
	ahead, each := eachKind()
	for _, e := range each {
		change(&e)
		if st := askHistory(t, bank(), append(slices.Clone(ahead), e)); st.Outcomes[4] != want {
			t.Errorf("%s, %s: got %s", what, shown(e), outcomesText(st.Outcomes))
		}
	}
}

func TestFieldsOfWhichNothingIsTold(t *testing.T) {
	askEach(t, "as it is", impl.DoneWell, func(e *impl.RoleEvent) {})
	ahead, each := eachKind()
	for _, e := range each {
		told := strings.Fields(fieldsOfEvents[e.Kind])
		for field, changes := range map[string][]func(e *impl.RoleEvent){
			"User":    {func(e *impl.RoleEvent) { e.User = "ann" }, func(e *impl.RoleEvent) { e.User = "b c" }, func(e *impl.RoleEvent) { e.User = "\x00" }},
			"Other":   {func(e *impl.RoleEvent) { e.Other = "bob" }, func(e *impl.RoleEvent) { e.Other = " " }},
			"Role":    {func(e *impl.RoleEvent) { e.Role = "a" }, func(e *impl.RoleEvent) { e.Role = "nobody" }},
			"Session": {func(e *impl.RoleEvent) { e.Session = "s" }, func(e *impl.RoleEvent) { e.Session = "-" }},
			"Until":   {func(e *impl.RoleEvent) { e.Until = 7 }, func(e *impl.RoleEvent) { e.Until = 9 }, func(e *impl.RoleEvent) { e.Until = 1 }, func(e *impl.RoleEvent) { e.Until = -1 }, func(e *impl.RoleEvent) { e.Until = impl.MaxTime }},
		} {
			for _, change := range changes {
				changed := e
				change(&changed)
				st := askHistory(t, bank(), append(slices.Clone(ahead), changed))
				if isTold := slices.Contains(told, field); !isTold && st.Outcomes[4] != impl.DoneBad {
					t.Errorf("%s, with %s: got %s", shown(changed), field, outcomesText(st.Outcomes))
				}
			}
		}
	}
}

func TestFieldsThatAreTold(t *testing.T) {
	ahead, each := eachKind()
	isDone := func(e impl.RoleEvent) int { return askHistory(t, bank(), append(slices.Clone(ahead), e)).Outcomes[4] }
	for _, e := range each {
		for _, field := range strings.Fields(fieldsOfEvents[e.Kind]) {
			if field == "Until" {
				continue
			}
			changed := e
			place := map[string]*string{"User": &changed.User, "Other": &changed.Other, "Role": &changed.Role, "Session": &changed.Session}[field]
			for _, word := range badWords() {
				*place = word
				if got := isDone(changed); got != impl.DoneBad {
					t.Errorf("%s with %s %.50q: got %s", wordsOfEvents[e.Kind], field, word, wordsOfOutcomes[got])
				}
			}
			for _, word := range []string{"zoe", "_", "Z9", longName("n"), "A", "ann", "pa"} {
				*place = word
				if got := isDone(changed); (got == impl.DoneBad) != (field == "Role" || e.Kind == impl.EventDelegate && changed.User == changed.Other) {
					t.Errorf("%s with %s %.50q: got %s", wordsOfEvents[e.Kind], field, word, wordsOfOutcomes[got])
				}
			}
		}
	}
	for _, kind := range append(oddInts(), 5, 6, 7, 8, 9, 10, 11) {
		if !isBetween(kind, 1, 9) {
			askEach(t, "no kind", impl.DoneBad, func(e *impl.RoleEvent) { e.Kind = kind })
			askHistory(t, bank(), []impl.RoleEvent{{Kind: kind}})
		}
	}
}

// kindsWithUntil are the kinds of events of which Until is told.
var kindsWithUntil = []int{impl.EventDelegate, impl.EventGlass}

func TestTimesOfEvents(t *testing.T) {
	// at puts the Time where it is told and, if Until is told, Until so far behind it.
	at := func(time int, until int) func(e *impl.RoleEvent) {
		return func(e *impl.RoleEvent) {
			e.Time = time
			if slices.Contains(kindsWithUntil, e.Kind) {
				e.Until = until
			}
		}
	}
	for _, time := range []int{5, 6, 7, 49, 50, impl.MaxTime - 1} {
		askEach(t, "Until at Time", impl.DoneWell, at(time, time))
		askEach(t, "Until above Time", impl.DoneWell, at(time, time+1))
	}
	askEach(t, "at MaxTime", impl.DoneWell, at(impl.MaxTime, impl.MaxTime))
	askEach(t, "beyond MaxTime", impl.DoneWell, at(impl.MaxTime, impl.MaxTime+1000))
	for _, time := range []int{0, 1, 4} {
		askEach(t, "too early", impl.DoneTime, at(time, 9))
	}
	for _, time := range []int{-1, -5, math.MinInt, impl.MaxTime + 1, math.MaxInt} {
		askEach(t, "no time", impl.DoneBad, at(time, math.MaxInt))
		askEach(t, "no time", impl.DoneBad, at(time, time))
	}
	for _, until := range []int{6, 5, 1, 0, -1, math.MinInt} {
		ahead, each := eachKind()
		for _, e := range each {
			at(7, until)(&e)
			want := impl.DoneWell
			if slices.Contains(kindsWithUntil, e.Kind) {
				want = impl.DoneBad
			}
			if st := askHistory(t, bank(), append(slices.Clone(ahead), e)); st.Outcomes[4] != want {
				t.Errorf("%s: got %s", shown(e), outcomesText(st.Outcomes))
			}
		}
	}
	// Nothing is told of how far off the Until of a delegation may be.
	st := askHistory(t, bank(), []impl.RoleEvent{eventOf("0 assign ann b"), {Kind: impl.EventDelegate, User: "ann", Other: "bob", Role: "b", Until: math.MaxInt}})
	if got := grantsText(st.Grants); got != "ann b @0; bob b @0 <ann .9223372036854775807 /1" {
		t.Errorf("the last Until: got %s, %s", outcomesText(st.Outcomes), got)
	}
	if impl.Authorised(bank(), st, "bob", impl.MaxTime) == nil || impl.Authorised(bank(), st, "bob", impl.MaxTime+1) != nil {
		t.Errorf("what is delegated must not outlive what it comes from")
	}
}

func TestTimesOfHistories(t *testing.T) {
	most := strconv.Itoa(impl.MaxTime)
	for _, told := range []struct {
		name  string
		lines []string
		time  int
	}{
		{"nothing", nil, 0},
		{"at 0", []string{"0 open s ann", "0 close s"}, 0},
		{"at the last time", []string{most + " open s ann", most + " close s"}, impl.MaxTime},
		{"what is not done well is not now", []string{"3 open s ann", "9 open s ann = nothing", "4 open t ann"}, 4},
		{"nor is it if it is forbidden", []string{"3 open s ann", "9 activate s a = forbidden", "3 close s"}, 3},
		{"nor at the end", []string{"3 open s ann", "9 activate s a = forbidden"}, 3},
		{"nor at first", []string{"9 close s = nothing", "0 open s ann"}, 0},
		{"back by one", []string{"3 open s ann", "2 close s = time", "3 close s"}, 3},
		{"back behind two", []string{"3 open s ann", "5 open t ann", "4 close s = time", "5 close s"}, 5},
		{"too early is not now", []string{"5 open s ann", "3 close s = time", "4 close s = time"}, 5},
	} {
		events, outcomes := historyOf(told.lines...)
		st := askHistory(t, bank(), events)
		if !slices.Equal(st.Outcomes, outcomes) || st.Time != told.time {
			t.Errorf("%s: got %s at %d", told.name, outcomesText(st.Outcomes), st.Time)
		}
	}
}

// Where several outcomes are there, the one that is told first counts.
func TestTheFirstOutcomeCounts(t *testing.T) {
	for _, told := range []toldHistory{
		{name: "time ahead of nothing", lines: []string{"5 assign ann b", "4 assign ann b = time", "5 open s ann", "4 open s ann = time", "4 close t = time", "4 drop s b = time", "4 revoke bob b = time", "4 recall ann bob b = time"}, grants: "ann b @5", sessions: "s of ann [] {}"},
		{name: "time ahead of apart", lines: []string{"5 assign ann b", "4 assign ann c = time"}, grants: "ann b @5"},
		{name: "time ahead of forbidden", lines: []string{"5 assign ann b", "4 delegate bob ann b 9 = time", "4 activate s b = time", "4 glass s b 9 = time"}, grants: "ann b @5"},
		{name: "time ahead of limit", lines: []string{"5 open s ann", "4 glass s c 2000 = time"}, sessions: "s of ann [] {}"},
		{name: "forbidden ahead of apart, delegated", lines: []string{"1 assign ann c", "1 delegate bob ann b 9 = forbidden"}, grants: "ann c @1"},
		{name: "limit ahead of apart, delegated", lines: []string{"1 assign ann b", "1 delegate ann bob b 9", "1 delegate bob cy b 9", "1 assign dan c", "1 delegate cy dan b 9 = limit"}, grants: "ann b @1; bob b @1 <ann .9 /1; cy b @1 <bob .9 /2; dan c @1"},
		{name: "forbidden ahead of nothing, activated", lines: []string{"1 assign ann b", "1 open s ann", "1 activate s b", "2 revoke ann b", "2 activate s b = forbidden"}, sessions: "s of ann [b] {}"},
		{name: "forbidden ahead of nothing, closed", lines: []string{"1 assign ann b", "1 open s ann", "1 activate s b", "2 close s", "2 activate s b = forbidden"}, grants: "ann b @1", sessions: "s of ann [b] {} closed"},
		{name: "forbidden ahead of apart, activated", lines: []string{"1 assign ann b", "1 open s ann", "1 activate s b", "2 activate s d = forbidden"}, grants: "ann b @1", sessions: "s of ann [b] {}"},
		{name: "forbidden ahead of limit, glass", lines: []string{"1 open s ann", "1 glass s a 5000 = forbidden", "1 glass t c 5000 = forbidden"}, sessions: "s of ann [] {}"},
		{name: "forbidden ahead of apart, glass", lines: []string{"1 open s ann", "1 glass s d 9", "2 glass s b 9 = forbidden"}, sessions: "s of ann [] {ann d @1 < .9 /0}"},
		{name: "limit ahead of apart, glass", lines: []string{"1 assign ann b", "1 open s ann", "1 activate s b", "1 glass s d 1002 = limit", "1 glass s d 1001 = apart"}, grants: "ann b @1", sessions: "s of ann [b] {}"},
	} {
		told.set = bank()
		told.ask(t)
	}
	// What is bad is so however early it is, and whatever else there is.
	ahead, each := eachKind()
	for _, e := range each {
		for _, change := range []func(e *impl.RoleEvent){
			func(e *impl.RoleEvent) { e.User += " " },
			func(e *impl.RoleEvent) { e.Other += " " },
			func(e *impl.RoleEvent) { e.Role += "x" },
			func(e *impl.RoleEvent) { e.Session += " " },
			func(e *impl.RoleEvent) { e.Until -= 90 },
			func(e *impl.RoleEvent) { e.Kind += 90 },
			func(e *impl.RoleEvent) { e.Time -= 90 },
			func(e *impl.RoleEvent) {
				e.Kind, e.User, e.Other, e.Role, e.Session, e.Until = impl.EventDelegate, "cy", "cy", "c", "", 9
			},
		} {
			changed := e
			changed.Time = 1
			change(&changed)
			if st := askHistory(t, bank(), append(slices.Clone(ahead), changed)); st.Outcomes[4] != impl.DoneBad {
				t.Errorf("%s: got %s", shown(changed), outcomesText(st.Outcomes))
			}
		}
	}
}

// askTold asks all of the histories, each by bank if it has no set of its own.
func askTold(t *testing.T, all []toldHistory) {
	t.Helper()
	for _, told := range all {
		if told.set.Roles == nil {
			told.set = bank()
		}
		told.ask(t)
	}
}

func TestAssigning(t *testing.T) {
	most := roleSetOf("role a", "role b", "role c", "role d > b c", "role e", "apart 2 a b c", "active 1 a e")
	within := roleSetOf("role a > b", "role b", "apart 1 a b")
	askTold(t, []toldHistory{
		{name: "there already", lines: []string{"1 assign ann a", "2 assign ann a = nothing", "3 assign ann b", "4 assign bob a"}, grants: "ann a @1; ann b @3; bob a @4"},
		{name: "taken away and put back", lines: []string{"1 assign ann a", "1 assign bob b", "2 revoke ann a", "2 revoke ann a = nothing", "3 assign ann a"}, grants: "bob b @1; ann a @3"},
		{name: "one of two roles", lines: []string{"1 assign ann b", "1 assign ann c = apart", "1 assign ann d"}, grants: "ann b @1; ann d @1"},
		{name: "the other one of two", lines: []string{"1 assign ann c", "1 assign ann b = apart", "1 assign ann d"}, grants: "ann c @1; ann d @1"},
		{name: "by a junior of what there is", lines: []string{"1 assign ann a", "1 assign ann c = apart", "1 assign ann b"}, grants: "ann a @1; ann b @1"},
		{name: "by a junior of what is put in", lines: []string{"1 assign ann c", "1 assign ann a = apart"}, grants: "ann c @1"},
		{name: "of another user", lines: []string{"1 assign ann b", "1 assign bob c"}, grants: "ann b @1; bob c @1"},
		{name: "behind a revocation", lines: []string{"1 assign ann b", "1 revoke ann b", "1 assign ann c"}, grants: "ann c @1"},
		{name: "a Part just met and passed", set: most, lines: []string{"1 assign ann a", "1 assign ann b", "1 assign ann c = apart", "1 assign ann d = apart", "1 assign bob d", "1 assign bob a = apart", "1 assign bob b", "1 assign bob c"}, grants: "ann a @1; ann b @1; bob d @1; bob b @1; bob c @1"},
		{name: "an Active Part counts for nothing", set: most, lines: []string{"1 assign ann a", "1 assign ann e"}, grants: "ann a @1; ann e @1"},
		{name: "a role that is too much itself", set: within, lines: []string{"1 assign ann a = apart", "1 assign ann b"}, grants: "ann b @1"},
		{name: "by what is delegated", lines: []string{"1 assign bob b", "1 delegate bob ann b 9", "2 assign ann c = apart", "9 assign ann c = apart", "10 assign ann c"}, grants: "bob b @1; ann b @1 <bob .9 /1; ann c @10"},
		{name: "by what is delegated and does not count now", lines: []string{"1 assign bob b", "1 delegate bob ann b 9", "2 revoke bob b", "3 assign ann c = apart", "9 assign ann c = apart", "10 assign ann c", "10 assign bob b"}, grants: "ann b @1 <bob .9 /1; ann c @10; bob b @10"},
		{name: "by what is delegated and was recalled", lines: []string{"1 assign bob b", "1 delegate bob ann b 9", "2 recall bob ann b", "3 assign ann c"}, grants: "bob b @1; ann c @3"},
		{name: "by what is delegated of a delegation that is over", lines: []string{"1 assign cy a", "1 delegate cy bob a 5", "1 delegate bob ann a 9", "7 assign ann c = apart", "8 delegate cy bob a 20", "8 assign ann c = apart", "10 assign ann c"}, grants: "cy a @1; ann a @1 <bob .9 /2; bob a @8 <cy .20 /1; ann c @10"},
		{name: "assigned what is delegated", lines: []string{"1 assign bob b", "1 delegate bob ann b 9", "2 assign ann b"}, grants: "bob b @1; ann b @1 <bob .9 /1; ann b @2"},
	})
}

func TestRevokingAndRecalling(t *testing.T) {
	askTold(t, []toldHistory{
		{name: "what is not there", lines: []string{"1 revoke ann a = nothing", "1 recall ann bob a = nothing"}},
		{name: "of another role", lines: []string{"1 assign ann a", "1 revoke ann b = nothing"}, grants: "ann a @1"},
		{name: "what is delegated is not revoked", lines: []string{"1 assign ann a", "1 delegate ann bob a 9", "1 revoke bob a = nothing"}, grants: "ann a @1; bob a @1 <ann .9 /1"},
		{name: "what is assigned is not recalled", lines: []string{"1 assign ann a", "1 assign bob a", "1 recall ann bob a = nothing", "1 recall bob bob a = nothing"}, grants: "ann a @1; bob a @1"},
		{name: "what another one delegated", lines: []string{"1 assign ann a", "1 assign cy a", "1 delegate ann bob a 9", "1 recall cy bob a = nothing", "1 delegate cy bob a 8", "2 recall ann bob a", "2 recall ann bob a = nothing"}, grants: "ann a @1; cy a @1; bob a @1 <cy .8 /1"},
		{name: "to another one, of another role", lines: []string{"1 assign ann a", "1 assign ann b", "1 delegate ann bob a 9", "1 recall ann cy a = nothing", "1 recall ann bob b = nothing", "1 recall bob ann a = nothing"}, grants: "ann a @1; ann b @1; bob a @1 <ann .9 /1"},
		{name: "what is over may be recalled", lines: []string{"1 assign ann a", "1 delegate ann bob a 2", "7 recall ann bob a"}, grants: "ann a @1"},
		{name: "by one who has it no more", lines: []string{"1 assign ann a", "1 delegate ann bob a 9", "2 revoke ann a", "3 recall ann bob a"}},
		{name: "the first, the middle and the last", lines: []string{"1 assign ann a", "1 assign bob a", "1 assign cy a", "1 assign dan a", "1 assign eve a", "2 revoke ann a", "2 revoke cy a", "2 revoke eve a"}, grants: "bob a @1; dan a @1"},
		{name: "what was delegated stays", lines: []string{"1 assign ann a", "1 delegate ann bob a 9", "1 delegate bob cy a 9", "2 recall ann bob a"}, grants: "ann a @1; cy a @1 <bob .9 /2"},
	})
}

func TestDelegating(t *testing.T) {
	askTold(t, []toldHistory{
		{name: "by one who has a role above it", lines: []string{"1 assign ann a", "1 delegate ann bob b 9 = forbidden", "1 delegate ann bob a 9"}, grants: "ann a @1; bob a @1 <ann .9 /1"},
		{name: "at the last depth and beyond", lines: []string{"1 assign ann a", "1 delegate ann bob a 9", "1 delegate bob cy a 9", "1 delegate cy dan a 9 = limit"}, grants: "ann a @1; bob a @1 <ann .9 /1; cy a @1 <bob .9 /2"},
		{name: "by one whose grant counts no more", lines: []string{"1 assign ann a", "1 delegate ann bob a 5", "5 delegate bob cy a 9", "6 delegate bob dan a 9 = forbidden"}, grants: "ann a @1; bob a @1 <ann .5 /1; cy a @5 <bob .9 /2"},
		{name: "by one whose grant was revoked", lines: []string{"1 assign ann a", "2 revoke ann a", "2 delegate ann bob a 9 = forbidden"}},
		{name: "by one whose grant came from a revoked one", lines: []string{"1 assign ann a", "1 delegate ann bob a 9", "2 revoke ann a", "2 delegate bob cy a 9 = forbidden", "3 assign ann a", "3 delegate bob cy a 9"}, grants: "bob a @1 <ann .9 /1; ann a @3; cy a @3 <bob .9 /2"},
		{name: "in place of an older one", lines: []string{"1 assign ann a", "1 delegate ann bob a 5", "2 assign cy d", "3 delegate ann bob a 9"}, grants: "ann a @1; cy d @2; bob a @3 <ann .9 /1"},
		{name: "in place of an older one, for a shorter time", lines: []string{"1 assign ann a", "1 delegate ann bob a 9", "2 assign cy d", "3 delegate ann bob a 4"}, grants: "ann a @1; cy d @2; bob a @3 <ann .4 /1"},
		{name: "in place of one that is over", lines: []string{"1 assign ann a", "1 delegate ann bob a 2", "7 delegate ann bob a 8"}, grants: "ann a @1; bob a @7 <ann .8 /1"},
		{name: "in place of just that one", lines: []string{"1 assign ann a", "1 assign ann d", "1 assign cy a", "1 delegate ann bob a 5", "1 delegate cy bob a 5", "1 delegate ann bob d 5", "1 delegate ann dan a 5", "2 delegate ann bob a 9"}, grants: "ann a @1; ann d @1; cy a @1; bob a @1 <cy .5 /1; bob d @1 <ann .5 /1; dan a @1 <ann .5 /1; bob a @2 <ann .9 /1"},
		{name: "in place of one whose From was revoked meanwhile", lines: []string{"1 assign ann a", "1 delegate ann bob a 9", "2 revoke ann a", "3 delegate ann bob a 12 = forbidden", "4 assign ann a", "5 delegate ann bob a 12"}, grants: "ann a @4; bob a @5 <ann .12 /1"},
		{name: "in place of one, at another depth", lines: []string{"1 assign ann a", "1 assign eve a", "1 delegate ann bob a 9", "1 delegate bob cy a 9", "2 delegate eve ann a 9", "2 revoke ann a", "3 delegate ann bob a 9", "3 delegate bob dan a 9 = limit", "3 delegate cy dan a 9 = forbidden"}, grants: "eve a @1; cy a @1 <bob .9 /2; ann a @2 <eve .9 /1; bob a @3 <ann .9 /2"},
		{name: "by the least depth", lines: []string{"1 assign ann a", "1 delegate ann bob a 9", "1 delegate bob cy a 9", "1 delegate ann cy a 4", "2 delegate cy dan a 9", "5 delegate cy eve a 9 = limit"}, grants: "ann a @1; bob a @1 <ann .9 /1; cy a @1 <bob .9 /2; cy a @1 <ann .4 /1; dan a @2 <cy .9 /2"},
		{name: "by the least depth, told later", lines: []string{"1 assign ann a", "1 delegate ann bob a 9", "1 delegate bob cy a 9", "1 delegate cy dan a 9 = limit", "2 assign cy a", "2 delegate cy dan a 9"}, grants: "ann a @1; bob a @1 <ann .9 /1; cy a @1 <bob .9 /2; cy a @2; dan a @2 <cy .9 /1"},
		{name: "back to where it came from", lines: []string{"1 assign ann a", "1 delegate ann bob a 9", "1 delegate bob ann a 9", "2 revoke ann a", "2 delegate bob cy a 9 = forbidden", "2 delegate ann cy a 9 = forbidden"}, grants: "bob a @1 <ann .9 /1; ann a @1 <bob .9 /2"},
		{name: "a Part that the other one passes", lines: []string{"1 assign ann a", "1 assign bob c", "1 delegate ann bob a 9 = apart", "1 revoke bob c", "1 delegate ann bob a 9", "1 assign bob c = apart"}, grants: "ann a @1; bob a @1 <ann .9 /1"},
		{name: "a Part that the other one may come to pass", lines: []string{"1 assign cy c", "1 assign ann b", "1 delegate cy bob c 9", "2 revoke cy c", "3 delegate ann bob b 5 = apart", "9 delegate ann bob b 10 = apart", "10 delegate ann bob b 10"}, grants: "ann b @1; bob c @1 <cy .9 /1; bob b @10 <ann .10 /1"},
		{name: "a Part that the one who delegates does not pass", lines: []string{"1 assign ann b", "1 assign bob d", "1 delegate ann bob b 9", "1 delegate bob ann d 9"}, grants: "ann b @1; bob d @1; bob b @1 <ann .9 /1; ann d @1 <bob .9 /1"},
	})
	bad := []impl.RoleEvent{eventOf("1 assign ann a"), {Kind: impl.EventDelegate, Time: 1, User: "ann", Other: "ann", Role: "a", Until: 9}, {Kind: impl.EventDelegate, Time: 0, User: "ann", Other: "ann", Role: "a", Until: 9}}
	if st := askHistory(t, bank(), bad); outcomesText(st.Outcomes) != "well bad bad" {
		t.Errorf("to oneself: got %s", outcomesText(st.Outcomes))
	}
}

// askAuthorised is told for which roles users are authorised at a time: `ann 5: a b`.
func askAuthorised(t *testing.T, name string, s impl.RoleSet, st impl.RoleState, told ...string) {
	t.Helper()
	for _, line := range told {
		who, want, _ := strings.Cut(line, ":")
		user, time, _ := strings.Cut(who, " ")
		if got := strings.Join(impl.Authorised(s, st, user, numberOf(time)), " "); got != strings.TrimSpace(want) {
			t.Errorf("%s, %s: got %q", name, line, got)
		}
	}
}

func TestGrantsThatCount(t *testing.T) {
	last, behind := strconv.Itoa(impl.MaxTime), strconv.Itoa(impl.MaxTime+1)
	for _, told := range []struct {
		name  string
		lines []string
		want  []string
	}{
		{"nobody", nil, []string{"ann 0:", "ann 9:"}},
		{"assigned", []string{"1 assign ann a"}, []string{"ann 0:", "ann 1: a b", "bob 1:", "ann " + last + ": a b", "ann " + behind + ":"}},
		{"all of several", []string{"1 assign ann b", "1 assign ann d"}, []string{"ann 1: b d"}},
		{"delegated, at its Until and behind it", []string{"1 assign ann a", "1 delegate ann bob a 9"}, []string{"bob 1: a b", "bob 9: a b", "bob 10:", "ann 10: a b"}},
		{"delegated for no time", []string{"1 assign ann a", "1 delegate ann bob a 1"}, []string{"bob 1: a b", "bob 2:"}},
		{"delegated on, for longer", []string{"1 assign ann a", "1 delegate ann bob a 5", "1 delegate bob cy a 9"}, []string{"cy 5: a b", "cy 6:", "bob 6:"}},
		{"delegated on, for shorter", []string{"1 assign ann a", "1 delegate ann bob a 9", "1 delegate bob cy a 5"}, []string{"cy 5: a b", "cy 6:", "bob 6: a b"}},
		{"the first grant is taken away", []string{"1 assign ann a", "1 delegate ann bob a 9", "1 delegate bob cy a 9", "2 revoke ann a"}, []string{"ann 2:", "bob 2:", "cy 2:"}},
		{"the first grant is put back", []string{"1 assign ann a", "1 delegate ann bob a 9", "1 delegate bob cy a 9", "2 revoke ann a", "3 assign ann a"}, []string{"ann 3: a b", "bob 3: a b", "cy 3: a b", "cy 9: a b", "cy 10:"}},
		{"the middle one is taken away", []string{"1 assign ann a", "1 delegate ann bob a 9", "1 delegate bob cy a 9", "2 recall ann bob a"}, []string{"ann 2: a b", "bob 2:", "cy 2:"}},
		{"the middle one is put back", []string{"1 assign ann a", "1 delegate ann bob a 9", "1 delegate bob cy a 9", "2 recall ann bob a", "3 delegate ann bob a 5"}, []string{"cy 5: a b", "cy 6:"}},
		{"the middle one is put back by another", []string{"1 assign ann a", "1 assign eve a", "1 delegate ann bob a 9", "1 delegate bob cy a 9", "2 recall ann bob a", "3 delegate eve bob a 5"}, []string{"cy 5: a b", "cy 6:"}},
		{"the middle one is put back too deep", []string{"1 assign ann a", "1 assign eve a", "1 delegate ann bob a 9", "1 delegate bob cy a 9", "2 recall ann bob a", "2 delegate eve ann a 9", "2 revoke ann a", "3 delegate ann bob a 9"}, []string{"ann 3: a b", "bob 3: a b", "cy 3:"}},
		{"the middle one is assigned", []string{"1 assign ann a", "1 delegate ann bob a 9", "1 delegate bob cy a 9", "2 revoke ann a", "3 assign bob a"}, []string{"bob 3: a b", "cy 3: a b", "cy 10:", "bob 10: a b"}},
		{"by another role it does not come back", []string{"1 assign ann b", "1 delegate ann bob b 9", "2 revoke ann b", "3 assign ann a"}, []string{"ann 3: a b", "bob 3:"}},
		{"by either of two", []string{"1 assign ann a", "1 assign eve a", "1 delegate ann bob a 5", "1 delegate eve bob a 9", "2 revoke ann a"}, []string{"bob 9: a b", "bob 10:"}},
		{"by either of two, the other one", []string{"1 assign ann a", "1 assign eve a", "1 delegate ann bob a 5", "1 delegate eve bob a 9", "2 revoke eve a"}, []string{"bob 5: a b", "bob 6:"}},
		{"back to where it came from", []string{"1 assign ann a", "1 delegate ann bob a 9", "1 delegate bob ann a 9", "2 revoke ann a"}, []string{"ann 2:", "bob 2:"}},
	} {
		st := askHistory(t, bank(), eventsOf(told.lines...))
		askAuthorised(t, told.name, bank(), st, told.want...)
	}
}

func TestSessions(t *testing.T) {
	met := roleSetOf("role a > b", "role b", "role c", "role d > c", "role e", "active 1 b c", "active 2 a c e", "glass a c e")
	three := roleSetOf("role a", "role b", "role c", "active 2 a b c", "apart 2 a b c", "glass c")
	has := func(lines ...string) []string {
		return append([]string{"1 assign ann a", "1 assign ann d", "1 open s ann"}, lines...)
	}
	askTold(t, []toldHistory{
		{name: "opened twice", lines: []string{"1 open s ann", "1 open s ann = nothing", "1 open s bob = nothing", "1 open t ann"}, sessions: "s of ann [] {}; t of ann [] {}"},
		{name: "opened when closed", lines: []string{"1 open s ann", "1 close s", "1 open s ann = nothing", "1 open s bob = nothing", "1 close s = nothing"}, sessions: "s of ann [] {} closed"},
		{name: "in the order in which they were opened", lines: []string{"1 open t ann", "1 open s bob", "1 open u cy", "2 close s"}, sessions: "t of ann [] {}; s of bob [] {} closed; u of cy [] {}"},
		{name: "used when closed", lines: has("2 activate s b", "2 close s", "3 activate s a = forbidden", "3 activate s b = forbidden", "3 drop s b = nothing", "3 glass s c 9 = forbidden", "3 close s = nothing"), grants: "ann a @1; ann d @1", sessions: "s of ann [b] {} closed"},
		{name: "used ahead of being opened", lines: []string{"1 assign ann a", "1 activate s a = forbidden", "1 glass s c 9 = forbidden", "1 drop s a = nothing", "1 close s = nothing"}, grants: "ann a @1"},
		{name: "a junior, and a role twice", lines: has("2 activate s b", "2 activate s b = nothing", "2 activate s a", "2 activate s b = nothing", "2 activate s a = nothing"), grants: "ann a @1; ann d @1", sessions: "s of ann [a b] {}"},
		{name: "roles rise", set: firm(), lines: []string{"1 assign ann boss", "1 open s ann", "1 activate s teller", "1 activate s clerk", "1 activate s reader", "1 activate s boss"}, grants: "ann boss @1", sessions: "s of ann [boss clerk reader teller] {}"},
		{name: "dropped from", set: firm(), lines: []string{"1 assign ann boss", "1 open s ann", "1 activate s teller", "1 activate s clerk", "1 activate s reader", "2 drop s reader", "2 drop s reader = nothing", "2 drop s boss = nothing", "3 activate s reader", "3 drop s clerk", "3 drop s teller"}, grants: "ann boss @1", sessions: "s of ann [reader] {}"},
		{name: "a junior that is not there itself is not dropped", lines: has("2 activate s a", "2 drop s b = nothing", "2 drop s a", "2 drop s a = nothing"), grants: "ann a @1; ann d @1", sessions: "s of ann [] {}"},
		{name: "what the user has not", lines: has("2 activate s c = forbidden", "2 open t bob", "2 activate t a = forbidden"), grants: "ann a @1; ann d @1", sessions: "s of ann [] {}; t of bob [] {}"},
		{name: "an Active Part just met and passed", lines: has("2 activate s b", "2 activate s d = apart", "3 drop s b", "3 activate s d", "3 activate s b = apart", "3 activate s a = apart"), grants: "ann a @1; ann d @1", sessions: "s of ann [d] {}"},
		{name: "an Active Part of three", set: three, lines: []string{"1 assign ann a", "1 assign ann b", "1 open s ann", "1 activate s a", "1 activate s b", "1 glass s c 9 = apart", "2 drop s a", "2 glass s c 9", "2 activate s a = apart", "9 activate s a = apart", "10 activate s a"}, grants: "ann a @1; ann b @1", sessions: "s of ann [a b] {ann c @2 < .9 /0}"},
		{name: "a Part that is not Active counts for nothing", set: three, lines: []string{"1 open s ann", "1 assign ann a", "1 assign ann b", "1 activate s b", "1 glass s c 5"}, grants: "ann a @1; ann b @1", sessions: "s of ann [b] {ann c @1 < .5 /0}"},
		{name: "by juniors of both", set: met, lines: []string{"1 assign ann a", "1 assign ann d", "1 open s ann", "1 activate s a", "1 activate s d = apart", "1 activate s c = apart", "1 activate s b"}, grants: "ann a @1; ann d @1", sessions: "s of ann [a b] {}"},
		{name: "not by other sessions", lines: has("2 open t ann", "2 activate s b", "2 activate t d"), grants: "ann a @1; ann d @1", sessions: "s of ann [b] {}; t of ann [d] {}"},
		{name: "by a role that does not stand now", lines: has("2 activate s b", "3 revoke ann a", "3 activate s d = apart", "4 assign ann a", "4 activate s d = apart", "4 drop s b", "4 activate s d"), grants: "ann d @1; ann a @4", sessions: "s of ann [d] {}"},
		{name: "what does not stand now is dropped", lines: has("2 activate s b", "3 revoke ann a", "3 drop s b", "3 activate s d"), grants: "ann d @1", sessions: "s of ann [d] {}"},
		{name: "what was delegated, till it is over", lines: []string{"1 assign bob b", "1 delegate bob ann b 5", "1 open s ann", "5 activate s b", "5 drop s b", "6 activate s b = forbidden"}, grants: "bob b @1; ann b @1 <bob .5 /1", sessions: "s of ann [] {}"},
	})
}

func TestGlass(t *testing.T) {
	over := roleSetOf("role a > b", "role b", "role c", "role d", "active 1 b c", "apart 1 c d", "glass a c")
	last := strconv.Itoa(impl.MaxTime)
	beyond, far := strconv.Itoa(impl.MaxTime+1000), strconv.Itoa(impl.MaxTime+1001)
	askTold(t, []toldHistory{
		{name: "at the limit and beyond", lines: []string{"7 open s ann", "7 glass s c 1008 = limit", "7 glass s c 1007", "9 glass s c 1009", "9 glass s c 1010 = limit"}, sessions: "s of ann [] {ann c @7 < .1007 /0; ann c @9 < .1009 /0}"},
		{name: "at the last time", lines: []string{last + " open s ann", last + " glass s c " + beyond, last + " glass s c " + far + " = limit"}, sessions: "s of ann [] {ann c @" + last + " < ." + beyond + " /0}"},
		{name: "twice", lines: []string{"1 open s ann", "1 glass s c 9", "1 glass s c 9", "2 glass s c 5"}, sessions: "s of ann [] {ann c @1 < .9 /0; ann c @1 < .9 /0; ann c @2 < .5 /0}"},
		{name: "of a role not in Glass", lines: []string{"1 assign ann a", "1 open s ann", "1 glass s a 9 = forbidden", "1 glass s b 9 = forbidden", "1 glass s d 9"}, grants: "ann a @1", sessions: "s of ann [] {ann d @1 < .9 /0}"},
		{name: "of a junior of a role in Glass", set: over, lines: []string{"1 open s ann", "1 glass s b 9 = forbidden", "1 glass s a 9"}, sessions: "s of ann [] {ann a @1 < .9 /0}"},
		{name: "for no time", lines: []string{"3 open s ann", "3 glass s c 3"}, sessions: "s of ann [] {ann c @3 < .3 /0}"},
		{name: "it counts for no Part that is not Active", set: over, lines: []string{"1 assign ann d", "1 open s ann", "1 glass s c 9"}, grants: "ann d @1", sessions: "s of ann [] {ann c @1 < .9 /0}"},
		{name: "with what there is by Glass", set: over, lines: []string{"1 open s ann", "1 glass s c 9", "9 glass s a 20 = apart", "10 glass s a 20"}, sessions: "s of ann [] {ann c @1 < .9 /0; ann a @10 < .20 /0}"},
		{name: "with what there is by roles", set: over, lines: []string{"1 assign ann a", "1 open s ann", "1 activate s b", "1 glass s c 9 = apart", "1 glass s a 9"}, grants: "ann a @1", sessions: "s of ann [b] {ann a @1 < .9 /0}"},
		{name: "roles with what there is by Glass", set: over, lines: []string{"1 assign ann a", "1 open s ann", "1 glass s c 5", "5 activate s b = apart", "6 activate s b"}, grants: "ann a @1", sessions: "s of ann [b] {ann c @1 < .5 /0}"},
		{name: "it is no role to be dropped, or to be there already", lines: []string{"1 assign ann d", "1 open s ann", "1 glass s d 9", "1 drop s d = nothing", "1 activate s d", "1 drop s d"}, grants: "ann d @1", sessions: "s of ann [] {ann d @1 < .9 /0}"},
		{name: "it gives nothing to delegate", lines: []string{"1 open s ann", "1 glass s d 9", "1 delegate ann bob d 9 = forbidden", "1 activate s d = forbidden"}, sessions: "s of ann [] {ann d @1 < .9 /0}"},
	})
}

func TestTheLongestHistories(t *testing.T) {
	s := withParts(heapOfRoles(impl.MaxRoles), 10)
	var events []impl.RoleEvent
	for i := range impl.MaxEvents {
		events = append(events, impl.RoleEvent{Kind: impl.EventOpen, Time: i, User: "ann", Session: "s" + strconv.Itoa(i)})
	}
	if st := askHistory(t, s, events); len(st.Outcomes) != 200 || len(st.Sessions) != 200 || st.Time != 199 {
		t.Errorf("MaxEvents sessions: got %d outcomes, %d sessions at %d", len(st.Outcomes), len(st.Sessions), st.Time)
	}
	for i := range events {
		events[i] = impl.RoleEvent{Kind: impl.EventAssign, Time: i, User: "u" + strconv.Itoa(i), Role: countedRole(29)}
	}
	askHistory(t, countedRoles(30), events)
	askHistory(t, s, events)
	if got := impl.Unused(s, events); len(got) != 200 || got[7].User != "u7" {
		t.Errorf("MaxEvents grants: %d are unused", len(got))
	}
	for _, more := range []impl.RoleEvent{events[0], {}, eventOf("999 assign ann a")} {
		long := append(slices.Clone(events), more)
		if st := impl.RunRoles(s, long); !sameRoleState(st, impl.RoleState{}) {
			t.Errorf("one event too many: got %s", roleStateText(st))
		}
		if got := impl.Unused(s, long); len(got) != 0 {
			t.Errorf("one event too many: got %s", grantsText(got))
		}
	}
	bad := make([]impl.RoleEvent, impl.MaxEvents)
	if st := askHistory(t, s, bad); len(st.Outcomes) != 200 || slices.ContainsFunc(st.Outcomes, func(outcome int) bool { return outcome != impl.DoneBad }) {
		t.Errorf("MaxEvents bad ones: got %s", outcomesText(st.Outcomes))
	}
	for i, s := range badRoleSets() {
		if st := impl.RunRoles(s, firmHistory()); !sameRoleState(st, impl.RoleState{}) {
			t.Errorf("bad set %d: got %s", i, roleStateText(st))
		}
		if got := impl.Unused(s, firmHistory()); len(got) != 0 {
			t.Errorf("bad set %d: got %s", i, grantsText(got))
		}
	}
}

// askAllHistories goes through all histories of so many events out of some, one at each time.
func askAllHistories(t *testing.T, s impl.RoleSet, some []impl.RoleEvent, many int) {
	t.Helper()
	found := map[int]int{}
	var events []impl.RoleEvent
	var goOn func()
	goOn = func() {
		if len(events) < many {
			for _, e := range some {
				e.Time = len(events)
				events = append(events, e)
				goOn()
				events = events[:len(events)-1]
			}
			return
		}
		got, want := askPromise(t, s, events), stateByWords(s, events)
		if !sameRoleState(got, want) {
			t.Fatalf("%s:\ngot  %s\nwant %s", shown(events), roleStateText(got), roleStateText(want))
		}
		if got, want := impl.Unused(s, events), unusedByWords(s, events); !slices.Equal(got, want) {
			t.Fatalf("Unused(%s):\ngot  %s\nwant %s", shown(events), grantsText(got), grantsText(want))
		}
		for _, outcome := range got.Outcomes {
			found[outcome]++
		}
	}
	goOn()
	for _, outcome := range []int{impl.DoneWell, impl.DoneBad, impl.DoneNothing, impl.DoneForbidden, impl.DoneApart} {
		if found[outcome] < 50 {
			t.Errorf("%s: only %d", wordsOfOutcomes[outcome], found[outcome])
		}
	}
}

func TestAllSmallHistories(t *testing.T) {
	s := roleSetOf("role a > b : p", "role b : q", "role c : r", "apart 1 b c", "active 1 b c", "glass c")
	askAllHistories(t, s, eventsOf("0 assign ann a", "0 assign bob c", "0 revoke ann a", "0 revoke bob c", "0 delegate ann bob a 2", "0 delegate ann bob a 9", "0 delegate bob ann a 9", "0 recall ann bob a", "0 open s bob", "0 activate s b", "0 activate s c", "0 drop s b", "0 glass s c 2", "0 close s"), 4)
	askAllHistories(t, s, eventsOf("0 assign ann b", "0 assign bob c", "0 assign cy c", "0 delegate ann bob b 3", "0 delegate cy bob c 9", "0 revoke ann b", "0 revoke cy c", "0 recall ann bob b"), 5)
	askAllHistories(t, roleSetOf("role b", "role d", "active 1 b d", "glass d"), eventsOf("0 assign ann b", "0 assign ann d", "0 open s ann", "0 activate s b", "0 activate s d", "0 glass s d 3", "0 revoke ann b", "0 drop s b"), 5)
}

func TestDrawnHistories(t *testing.T) {
	from := drawn()
	found := map[string]int{}
	for i := range 1500 {
		s := drawnRoleSet(from)
		events := drawnHistory(from, s, 5+from.Intn(40))
		if i%20 == 0 {
			events = drawnHistory(from, s, 150)
		}
		st := askHistory(t, s, events)
		for at, e := range events {
			if isBetween(e.Kind, 1, 9) {
				found[wordsOfEvents[e.Kind]+" "+wordsOfOutcomes[st.Outcomes[at]]]++
			}
		}
		// Duties are apart behind each event, too.
		if i%10 == 0 {
			for many := range events {
				askPromise(t, s, events[:many])
			}
		}
	}
	for kind, outcomes := range outcomesOfEvents {
		for _, outcome := range strings.Fields(outcomes) {
			if found[kind+" "+outcome] < 20 {
				t.Errorf("%s %s: only %d were drawn", kind, outcome, found[kind+" "+outcome])
			}
		}
	}
}

// grantOf is the grant of a text: user, role, from (`-` of none), until, depth.
func grantOf(text string) impl.RoleGrant {
	parts := strings.Fields(text)
	g := impl.RoleGrant{User: parts[0], Role: parts[1], Until: numberOf(parts[3]), Depth: numberOf(parts[4])}
	if parts[2] != "-" {
		g.From = parts[2]
	}
	return g
}

func grantsOf(texts ...string) []impl.RoleGrant {
	var grants []impl.RoleGrant
	for _, text := range texts {
		grants = append(grants, grantOf(text))
	}
	return grants
}

func TestStatesThatNoHistoryMakes(t *testing.T) {
	for _, told := range []struct {
		name   string
		grants []string
		want   []string
	}{
		{"a role that is none", []string{"ann nobody - 9 0", "ann d - 9 0"}, []string{"ann 5: d"}},
		{"a role that is none, delegated", []string{"ann nobody - 9 0", "bob nobody ann 9 1"}, []string{"ann 5:", "bob 5:"}},
		{"a name that is no role's alone", []string{"ann A - 9 0", "ann pa - 9 0"}, []string{"ann 5:"}},
		{"assigned, till some time", []string{"ann a - 6 0"}, []string{"ann 5: a b", "ann 6: a b", "ann 7:"}},
		{"assigned at a depth", []string{"ann a - 9 2", "bob a ann 9 2", "cy a ann 9 1"}, []string{"ann 5: a b", "bob 5:", "cy 5:"}},
		{"assigned at a depth, and delegated below it", []string{"ann a - 9 1", "bob a ann 9 2"}, []string{"bob 5: a b"}},
		{"twice, at two depths", []string{"ann a - 9 2", "ann a - 6 0", "bob a ann 9 1"}, []string{"bob 6: a b", "bob 7:", "ann 7: a b"}},
		{"delegated at depth 0", []string{"ann a - 9 0", "bob a ann 9 0"}, []string{"ann 5: a b", "bob 5:"}},
		{"delegated at one depth", []string{"ann a - 9 1", "bob a ann 9 1"}, []string{"bob 5:"}},
		{"delegated over a depth", []string{"ann a - 9 0", "bob a ann 9 2"}, []string{"bob 5: a b"}},
		{"from oneself", []string{"ann a - 6 0", "ann a ann 9 1"}, []string{"ann 6: a b", "ann 7:"}},
		{"from oneself alone", []string{"ann a ann 9 1", "ann a ann 9 2"}, []string{"ann 5:"}},
		{"in a ring", []string{"ann a bob 9 2", "bob a ann 9 1"}, []string{"ann 5:", "bob 5:"}},
		{"told ahead of what it comes from", []string{"cy a bob 9 2", "bob a ann 9 1", "ann a - 9 0"}, []string{"cy 5: a b", "bob 5: a b"}},
		{"one of several behind it counts", []string{"bob a - 2 0", "bob a eve 9 0", "bob a dan 9 1", "dan a - 9 0", "cy a bob 9 2"}, []string{"cy 5: a b"}},
		{"none of several behind it counts", []string{"bob a - 2 0", "bob a eve 9 0", "bob a dan 9 2", "dan a - 9 0", "cy a bob 9 2", "bob d - 9 0"}, []string{"cy 5:", "bob 5: a b d"}},
		{"more than may be", []string{"ann a - 9 0", "ann c - 9 0"}, []string{"ann 5: a b c"}},
		{"an Until below 0", []string{"ann a - -7 0"}, []string{"ann 5:"}},
	} {
		st := impl.RoleState{Grants: grantsOf(told.grants...), Time: 5}
		askAuthorised(t, told.name, bank(), st, told.want...)
		askAuthorised(t, told.name, bank(), st, "ann 4:", "bob 4:", "cy 4:", "nobody 5:")
		for _, time := range append(laterTimes(st), 4, math.MinInt) {
			askRoleState(t, bank(), st, time)
		}
	}
	empty := impl.RoleState{Grants: []impl.RoleGrant{{Role: "a", Until: 9}, {Role: "d", User: "ann", Until: 9}, {User: "bob", Role: "a", From: "", Until: 9, Depth: 1}}}
	askAuthorised(t, "an empty name", bank(), empty, " 5: a b", "ann 5: d", "bob 5: a b")
}

// openOf is an open session, of roles and of Glass till 9.
func openOf(id string, user string, roles string, glass string) impl.RoleSession {
	s := impl.RoleSession{Id: id, User: user, Roles: strings.Fields(roles), Open: true}
	for _, role := range strings.Fields(glass) {
		s.Glass = append(s.Glass, impl.RoleGrant{Role: role, Until: 9})
	}
	return s
}

func closedOf(s impl.RoleSession) impl.RoleSession {
	s.Open = false
	return s
}

func TestMayDo(t *testing.T) {
	grants := grantsOf("ann a - 20 0", "ann d - 7 0", "bob c - 20 0")
	for _, told := range []struct {
		name     string
		sessions []impl.RoleSession
		perms    string // what may be done in s at 5
		later    string // at 8
		last     string // at 10
	}{
		{"no session", nil, "", "", ""},
		{"no roles", []impl.RoleSession{openOf("s", "ann", "", "")}, "", "", ""},
		{"a role with a junior", []impl.RoleSession{openOf("s", "ann", "a", "")}, "pa pb", "pa pb", "pa pb"},
		{"a junior alone", []impl.RoleSession{openOf("s", "ann", "b", "")}, "pb", "pb", "pb"},
		{"a role that is over", []impl.RoleSession{openOf("s", "ann", "b d", "")}, "pb pd", "pb", "pb"},
		{"a role that the user has not", []impl.RoleSession{openOf("s", "ann", "c", ""), openOf("t", "bob", "c", "")}, "", "", ""},
		{"Glass", []impl.RoleSession{openOf("s", "ann", "", "a c")}, "pa pb pc", "pa pb pc", ""},
		{"Glass of one who has nothing", []impl.RoleSession{openOf("s", "nobody", "d", "d")}, "pd", "pd", ""},
		{"closed", []impl.RoleSession{closedOf(openOf("s", "ann", "a", "c"))}, "", "", ""},
		{"another one", []impl.RoleSession{openOf("t", "ann", "a", "c")}, "", "", ""},
		{"one of two of one Id", []impl.RoleSession{openOf("s", "ann", "b", ""), openOf("s", "bob", "c", "d")}, "pb pc pd", "pb pc pd", "pb pc"},
		{"an open and a closed one of one Id", []impl.RoleSession{closedOf(openOf("s", "ann", "b", "")), openOf("s", "ann", "d", ""), closedOf(openOf("s", "bob", "c", "d"))}, "pd", "", ""},
		{"roles that are none, and fall", []impl.RoleSession{openOf("s", "ann", "nobody d b b", "none")}, "pb pd", "pb", "pb"},
	} {
		st := impl.RoleState{Grants: grants, Sessions: told.sessions, Time: 5}
		for time, want := range map[int]string{4: "", 5: told.perms, 8: told.later, 10: told.last, 21: "", math.MinInt: ""} {
			for _, perm := range []string{"pa", "pb", "pc", "pd", "", "a", "p"} {
				if got := impl.MayDo(bank(), st, "s", perm, time); got != slices.Contains(strings.Fields(want), perm) {
					t.Errorf("%s, %q at %d: got %v", told.name, perm, time, got)
				}
			}
			askRoleState(t, bank(), st, time)
		}
	}
}

func TestKeptApart(t *testing.T) {
	for _, told := range []struct {
		name     string
		grants   []string
		sessions []impl.RoleSession
		want     bool // at 5
		later    bool // at 10
	}{
		{"nothing", nil, nil, true, true},
		{"a Part just met", []string{"ann a - 20 0", "ann d - 20 0", "bob c - 20 0"}, nil, true, true},
		{"a Part passed", []string{"ann b - 20 0", "ann c - 20 0"}, nil, false, false},
		{"a Part passed, till it is over", []string{"ann b - 20 0", "ann c - 9 0"}, nil, false, true},
		{"a Part passed by juniors", []string{"bob c - 20 0", "bob a - 20 0"}, nil, false, false},
		{"a Part passed by a second user", []string{"ann a - 20 0", "bob b - 20 0", "bob c - 20 0"}, nil, false, false},
		{"a Part passed by what is delegated", []string{"ann b - 20 0", "bob b ann 9 1", "bob c - 20 0"}, nil, false, true},
		{"a Part passed by what does not count", []string{"bob b ann 20 1", "bob c - 20 0"}, nil, true, true},
		{"a Part that is Active counts for no user", []string{"ann b - 20 0", "ann d - 20 0"}, nil, true, true},
		{"an Active Part just met", []string{"ann a - 20 0", "ann d - 20 0"}, []impl.RoleSession{openOf("s", "ann", "a b", ""), openOf("t", "ann", "d", "d")}, true, true},
		{"an Active Part passed", []string{"ann a - 20 0", "ann d - 9 0"}, []impl.RoleSession{openOf("s", "ann", "b d", "")}, false, true},
		{"an Active Part passed by a second session", []string{"ann a - 20 0", "ann d - 20 0"}, []impl.RoleSession{openOf("s", "ann", "b", ""), openOf("s", "ann", "a d", "")}, false, false},
		{"an Active Part passed by what does not stand", []string{"ann a - 20 0"}, []impl.RoleSession{openOf("s", "ann", "b d", "")}, true, true},
		{"an Active Part passed by Glass", []string{"ann a - 20 0"}, []impl.RoleSession{openOf("s", "ann", "a", "d")}, false, true},
		{"an Active Part passed by Glass alone", nil, []impl.RoleSession{openOf("s", "ann", "", "d a")}, false, true},
		{"an Active Part passed by a closed session", []string{"ann a - 20 0", "ann d - 20 0"}, []impl.RoleSession{closedOf(openOf("s", "ann", "b d", "b d"))}, true, true},
		{"a Part that is not Active counts for no session", []string{"ann b - 20 0"}, []impl.RoleSession{openOf("s", "ann", "b", "c")}, true, true},
		{"by roles that are none", []string{"ann b - 20 0", "ann nobody - 20 0"}, []impl.RoleSession{openOf("s", "ann", "b nobody", "none")}, true, true},
	} {
		st := impl.RoleState{Grants: grantsOf(told.grants...), Sessions: told.sessions, Time: 5}
		for time, want := range map[int]bool{4: false, 5: told.want, 9: told.want, 10: told.later, 21: true, -1: false, math.MinInt: false, math.MaxInt: true} {
			if got := impl.KeptApart(bank(), st, time); got != want {
				t.Errorf("%s, at %d: got %v", told.name, time, got)
			}
			askRoleState(t, bank(), st, time)
		}
	}
}

// stateOfSize has so many grants, sessions, roles and Glass in all, and is apart; ann has a, and s has it.
func stateOfSize(grants int, sessions int, roles int, glass int) impl.RoleState {
	st := impl.RoleState{Grants: grantsOf("ann a - 20 0"), Sessions: []impl.RoleSession{openOf("s", "ann", "a", "a")}}
	for range grants - 1 {
		st.Grants = append(st.Grants, grantOf("bob c ann 20 1"))
	}
	for range sessions - 1 {
		st.Sessions = append(st.Sessions, openOf("t", "ann", "", ""))
	}
	last := &st.Sessions[len(st.Sessions)-1]
	for range roles - 1 {
		last.Roles = append(last.Roles, "b")
	}
	for range glass - 1 {
		last.Glass = append(last.Glass, impl.RoleGrant{Role: "a", Until: 9, Depth: 7})
	}
	return st
}

func TestStatesAtTheirLimits(t *testing.T) {
	// askTold asks whether something is told of the state at all.
	askTold := func(what string, s impl.RoleSet, st impl.RoleState, want bool) {
		t.Helper()
		if got := len(impl.Authorised(s, st, "ann", 5)) > 0; got != want {
			t.Errorf("%s: Authorised told %v", what, got)
		}
		if got := impl.MayDo(s, st, "s", "pa", 5); got != want {
			t.Errorf("%s: MayDo told %v", what, got)
		}
		if got := impl.KeptApart(s, st, 5); got != want {
			t.Errorf("%s: KeptApart told %v", what, got)
		}
		askRoleState(t, s, st, 5)
	}
	for _, sizes := range [][4]int{{1, 1, 1, 1}, {297, 1, 1, 1}, {1, 297, 1, 1}, {1, 1, 297, 1}, {1, 1, 1, 297}, {75, 75, 75, 75}, {100, 50, 50, 100}} {
		askTold("not too many", bank(), stateOfSize(sizes[0], sizes[1], sizes[2], sizes[3]), true)
		if sizes[0]+sizes[1]+sizes[2]+sizes[3] < 300 {
			continue
		}
		for at := range sizes {
			more := sizes
			more[at]++
			askTold("one too many", bank(), stateOfSize(more[0], more[1], more[2], more[3]), false)
			more[at] += 3000
			askTold("many too many", bank(), stateOfSize(more[0], more[1], more[2], more[3]), false)
		}
	}
	// Outcomes count for nothing.
	long := stateOfSize(297, 1, 1, 1)
	long.Outcomes = make([]int, 5000)
	askTold("many outcomes", bank(), long, true)
	for _, depth := range append(oddInts(), -2, 5) {
		for at := range 3 {
			st := stateOfSize(4, 2, 2, 2)
			st.Grants[at+1].Depth = depth
			askTold("a depth of "+strconv.Itoa(depth), bank(), st, isBetween(depth, 0, 2))
			glass := stateOfSize(4, 2, 2, 4)
			glass.Sessions[1].Glass[at].Depth = depth
			askTold("a depth in Glass", bank(), glass, true)
		}
	}
	for i, s := range badRoleSets() {
		askTold("bad set "+strconv.Itoa(i), s, stateOfSize(4, 2, 2, 2), false)
	}
	for _, time := range []int{6, 7, impl.MaxTime, math.MaxInt} {
		st := stateOfSize(4, 2, 2, 2)
		st.Time = time
		askTold("a time below its own", bank(), st, false)
	}
	for _, time := range []int{5, 4, 0, -1, math.MinInt} {
		st := stateOfSize(4, 2, 2, 2)
		st.Time = time
		askTold("a time not below its own", bank(), st, true)
	}
}

func TestDrawnStates(t *testing.T) {
	from := drawn()
	apart := map[bool]int{}
	for range 1500 {
		s := drawnRoleSet(from)
		st := drawnRoleState(from, s)
		for time := -2; time < 13; time++ {
			askRoleState(t, s, st, time)
			if time >= st.Time {
				apart[impl.KeptApart(s, st, time)]++
			}
		}
	}
	if apart[true] < 5000 || apart[false] < 1500 {
		t.Errorf("apart, or not: %v", apart)
	}
}

func TestUnused(t *testing.T) {
	for _, told := range []struct {
		name  string
		lines []string
		want  string
	}{
		{"nothing", nil, ""},
		{"no session", []string{"1 assign ann a", "1 assign bob b"}, "ann a @1; bob b @1"},
		{"no role activated", []string{"1 assign ann a", "1 open s ann"}, "ann a @1"},
		{"activated", []string{"1 assign ann a", "1 open s ann", "1 activate s a"}, ""},
		{"a junior activated", []string{"1 assign ann a", "1 open s ann", "1 activate s b"}, ""},
		{"a role above it activated", []string{"1 assign ann b", "2 assign ann a", "2 open s ann", "2 activate s a"}, "ann b @1"},
		{"another role activated", []string{"1 assign ann a", "1 assign ann d", "1 open s ann", "1 activate s d"}, "ann a @1"},
		{"by a session of another user", []string{"1 assign ann a", "1 assign bob a", "1 open s bob", "1 activate s a"}, "ann a @1"},
		{"ahead of the grant", []string{"1 assign bob b", "1 delegate bob ann b 9", "1 open s ann", "1 activate s b", "1 assign ann b"}, "bob b @1; ann b @1"},
		{"ahead of the grant and behind it", []string{"1 assign bob b", "1 delegate bob ann b 9", "1 open s ann", "1 activate s b", "1 assign ann b", "1 drop s b", "1 activate s b"}, "bob b @1"},
		{"by another session behind the grant", []string{"1 assign bob b", "1 delegate bob ann b 9", "1 open s ann", "1 activate s b", "1 assign ann b", "1 open t ann", "1 activate t b"}, "bob b @1"},
		{"not done well", []string{"1 assign ann a", "1 open s ann", "1 activate s c = forbidden", "0 activate s a = time", "1 close s", "1 activate s a = forbidden"}, "ann a @1"},
		{"there already, behind a grant", []string{"1 assign bob b", "1 delegate bob ann b 9", "1 open s ann", "1 activate s b", "1 assign ann b", "1 activate s b = nothing"}, "bob b @1; ann b @1"},
		{"put in anew by delegation", []string{"1 assign ann a", "1 delegate ann bob a 9", "1 open s bob", "1 activate s a", "2 delegate ann bob a 9"}, "ann a @1; bob a @2 <ann .9 /1"},
		{"put in anew and activated again", []string{"1 assign ann a", "1 delegate ann bob a 9", "1 open s bob", "1 activate s a", "2 delegate ann bob a 9", "2 activate s b"}, "ann a @1"},
		{"put in anew by being assigned", []string{"1 assign ann a", "1 open s ann", "1 activate s a", "2 revoke ann a", "2 assign ann a"}, "ann a @2"},
		{"put in anew, not done well", []string{"1 assign ann a", "1 open s ann", "1 activate s a", "2 assign ann a = nothing"}, ""},
		{"of what is over or does not count", []string{"1 assign ann a", "1 delegate ann bob a 2", "1 delegate ann cy a 9", "5 revoke ann a"}, "bob a @1 <ann .2 /1; cy a @1 <ann .9 /1"},
		{"of the user, whichever grant it came by", []string{"1 assign ann a", "1 assign ann b", "1 open s ann", "1 activate s b"}, ""},
		{"used, then dropped and closed", []string{"1 assign ann a", "1 open s ann", "1 activate s a", "2 drop s a", "2 close s"}, ""},
		{"Glass is no use", []string{"1 assign ann d", "1 open s ann", "1 glass s d 9"}, "ann d @1"},
		{"the last one of many", []string{"1 assign ann a", "1 assign bob a", "1 open s ann", "1 open t bob", "1 activate s a", "2 activate t a", "2 assign cy a"}, "cy a @2"},
		{"activated first, by the first grant", []string{"0 assign ann a", "0 open s ann", "0 activate s b", "0 revoke ann a", "0 assign bob b"}, "bob b @0"},
	} {
		events, outcomes := historyOf(told.lines...)
		if st := askHistory(t, bank(), events); !slices.Equal(st.Outcomes, outcomes) {
			t.Errorf("%s: got %s", told.name, outcomesText(st.Outcomes))
		}
		if got := grantsText(impl.Unused(bank(), events)); got != told.want {
			t.Errorf("%s: got %s, want %s", told.name, got, told.want)
		}
	}
}

// askMined holds roles that are mined against the words, and asks for the promise: each user has just their perms.
func askMined(t *testing.T, list []impl.Had) []impl.Role {
	t.Helper()
	got, want := impl.MineRoles(list), mineByWords(list)
	if !slices.EqualFunc(got, want, sameRole) {
		t.Fatalf("MineRoles(%.1000s): got %.1000s, want %.1000s", shown(list), minedText(got), minedText(want))
	}
	for _, h := range list {
		var perms []string
		for _, r := range got {
			if areAllIn(r.Perms, h.Perms) {
				perms = append(perms, r.Perms...)
			}
		}
		slices.Sort(perms)
		if perms = slices.Compact(perms); !slices.Equal(perms, h.Perms) && goodHadsByWords(list) {
			t.Fatalf("MineRoles(%.1000s): %s has %q", shown(list), h.User, perms)
		}
	}
	for i, r := range got {
		if r.Name != "R"+strconv.Itoa(i+1) || len(r.Under) > 0 || len(r.Perms) == 0 || !areNamesByWords(r.Perms) {
			t.Fatalf("MineRoles(%.1000s): got %.1000s", shown(list), minedText(got))
		}
	}
	return got
}

func TestMineRoles(t *testing.T) {
	for _, told := range []struct {
		name string
		list []impl.Had
		want string
	}{
		{"nobody", nil, ""},
		{"one user", hadOf("ann x y"), "R1:x y"},
		{"users with nothing in common", hadOf("ann x", "bob y z", "cy w"), "R1:y z; R2:w; R3:x"},
		{"users with the same perms", hadOf("ann x y", "bob x y", "cy x y"), "R1:x y"},
		{"one within the other", hadOf("ann x y", "bob x y z"), "R1:x y; R2:x y z"},
		{"what two have in common is more than either has", hadOf("ann a b c d e", "bob a b c d f"), "R1:a b c d; R2:a b c d e; R3:a b c d f"},
		{"what two have in common is as much", hadOf("ann a b c d", "bob a b e f"), "R1:a b c d; R2:a b e f"},
		{"as many pairs, the most perms", hadOf("ann x y", "bob x z"), "R1:x y; R2:x z"},
		{"as many pairs and perms, the least text", hadOf("ann y z", "bob w x"), "R1:w x; R2:y z"},
		{"the text, by bytes", hadOf("ann a", "bob B", "cy _"), "R1:B; R2:_; R3:a"},
		{"the text, of one that goes on", hadOf("ann a1 b", "bob a c"), "R1:a c; R2:a1 b"},
		{"of three, each two", hadOf("ann x y", "bob y z", "cy x z"), "R1:x y; R2:x z; R3:y z"},
		{"what all have", hadOf("ann a b p", "bob a b q", "cy a b r"), "R1:a b; R2:a b p; R3:a b q; R4:a b r"},
		{"what is given counts no more", hadOf("ann a b c", "bob a b", "cy b c"), "R1:a b; R2:b c"},
		{"what is given counts no more, at the end", hadOf("ann a b c d", "bob a b", "cy c d"), "R1:a b c d; R2:a b; R3:c d"},
		{"what two have in common, of other users too", hadOf("ann a b c", "bob a b d", "cy a b", "dan b c d"), "R1:a b; R2:b c d; R3:a b c; R4:a b d"},
		{"a set that is no user's alone", hadOf("ann a b c x", "bob a b c y", "cy a b c z"), "R1:a b c; R2:a b c x; R3:a b c y; R4:a b c z"},
	} {
		if got := minedText(askMined(t, told.list)); got != told.want {
			t.Errorf("%s: got %s, want %s", told.name, got, told.want)
		}
	}
}

func TestMineRolesAtItsLimits(t *testing.T) {
	for _, list := range goodHads() {
		if roles := askMined(t, list); len(roles) == 0 != (len(list) == 0) {
			t.Errorf("%.300s: got %s", shown(list), minedText(roles))
		}
	}
	if roles := askMined(t, countedHads(20, 20)); len(roles) != 21 || len(roles[0].Perms) != 19 || roles[20].Name != "R21" {
		t.Errorf("20 users: got %d roles", len(roles))
	}
	for i, list := range badHads() {
		if roles := impl.MineRoles(list); len(roles) != 0 || len(mineByWords(list)) != 0 {
			t.Errorf("list %d, %.300s: got %.300s", i, shown(list), minedText(roles))
		}
	}
}

// All lists of up to three users with some of three perms.
func TestAllSmallMinings(t *testing.T) {
	perms := []string{"x", "y", "z"}
	some := func(bits int) []string {
		var out []string
		for i, perm := range perms {
			if bits>>i&1 == 1 {
				out = append(out, perm)
			}
		}
		return out
	}
	for a := range 8 {
		for b := range 8 {
			for c := range 8 {
				askMined(t, []impl.Had{{User: "ann", Perms: some(a)}, {User: "bob", Perms: some(b)}, {User: "cy", Perms: some(c)}})
			}
			askMined(t, []impl.Had{{User: "ann", Perms: some(a)}, {User: "bob", Perms: some(b)}})
		}
	}
}

func TestDrawnMinings(t *testing.T) {
	from := drawn()
	for range 1500 {
		askMined(t, drawnHads(from, 1+from.Intn(6), 1+from.Intn(8)))
	}
	for range 20 {
		askMined(t, drawnHads(from, 20, 20))
	}
}

// What is mined is a set by which a user who is assigned all roles that fit has just their perms.
func TestMinedRolesAreASet(t *testing.T) {
	from := drawn()
	for range 200 {
		list := drawnHads(from, 1+from.Intn(5), 1+from.Intn(7))
		roles := impl.MineRoles(list)
		slices.SortFunc(roles, func(a, b impl.Role) int { return strings.Compare(a.Name, b.Name) })
		s := impl.RoleSet{Roles: roles}
		if !impl.GoodRoleSet(s) {
			t.Fatalf("MineRoles(%s): %s is no good set", shown(list), minedText(roles))
		}
		for _, h := range list {
			events := []impl.RoleEvent{{Kind: impl.EventOpen, User: h.User, Session: "s"}}
			for _, r := range roles {
				if areAllIn(r.Perms, h.Perms) {
					events = append(events, impl.RoleEvent{Kind: impl.EventAssign, User: h.User, Role: r.Name}, impl.RoleEvent{Kind: impl.EventActivate, Session: "s", Role: r.Name})
				}
			}
			st := askHistory(t, s, events)
			for _, perm := range countedNames(7) {
				if got := impl.MayDo(s, st, "s", perm, 0); got != slices.Contains(h.Perms, perm) {
					t.Fatalf("%s: may %s do %s? got %v", minedText(roles), h.User, perm, got)
				}
			}
		}
	}
}
