package tests

import (
	"math"
	"reflect"
	"slices"
	"strconv"
	"strings"
	"sync"
	"testing"

	"loop.example/g00036/impl"
)

// roleArguments are all that the functions of the chapter take.
type roleArguments struct {
	set     impl.RoleSet
	events  []impl.RoleEvent
	state   impl.RoleState
	list    []impl.Had
	role    string
	user    string
	session string
	perm    string
	time    int
}

func plainRoleArguments() roleArguments {
	s, events := firm(), firmHistory()
	return roleArguments{s, events, stateByWords(s, events), hadOf("ann w x y", "bob w x", "cy x y z"), "boss", "fay", "u", "read", 12}
}

// askWords holds all functions of the chapter against the words.
func (a roleArguments) askWords(t *testing.T, what string) {
	t.Helper()
	good := goodRoleSetByWords(a.set)
	if got := impl.GoodRoleSet(a.set); got != good {
		t.Errorf("%.200s: GoodRoleSet told %v", what, got)
	}
	var juniors []string
	if good {
		juniors = juniorsByWords(a.set, a.role)
	}
	if got := impl.JuniorsOf(a.set, a.role); !slices.Equal(got, juniors) {
		t.Errorf("%.200s: JuniorsOf told %q, want %q", what, got, juniors)
	}
	if got, want := impl.RunRoles(a.set, a.events), stateByWords(a.set, a.events); !sameRoleState(got, want) {
		t.Errorf("%.200s: RunRoles told %.1000s, want %.1000s", what, roleStateText(got), roleStateText(want))
	}
	if good && len(a.events) <= impl.MaxEvents {
		askPromise(t, a.set, a.events)
	}
	if got, want := impl.Unused(a.set, a.events), unusedByWords(a.set, a.events); !slices.Equal(got, want) {
		t.Errorf("%.200s: Unused told %.1000s, want %.1000s", what, grantsText(got), grantsText(want))
	}
	if got, want := impl.Authorised(a.set, a.state, a.user, a.time), toldAuthorised(a.set, a.state, a.user, a.time); !slices.Equal(got, want) {
		t.Errorf("%.200s: Authorised told %q, want %q", what, got, want)
	}
	if got, want := impl.MayDo(a.set, a.state, a.session, a.perm, a.time), slices.Contains(permsByWords(a.set, a.state, a.session, a.time), a.perm); got != want {
		t.Errorf("%.200s: MayDo told %v", what, got)
	}
	if got, want := impl.KeptApart(a.set, a.state, a.time), keptApartByWords(a.set, a.state, a.time); got != want {
		t.Errorf("%.200s: KeptApart told %v", what, got)
	}
	if got, want := impl.MineRoles(a.list), mineByWords(a.list); !slices.EqualFunc(got, want, sameRole) {
		t.Errorf("%.200s: MineRoles told %.1000s, want %.1000s", what, minedText(got), minedText(want))
	}
}

func TestPlainRoleArguments(t *testing.T) {
	a := plainRoleArguments()
	a.askWords(t, "as they are")
	if !impl.MayDo(a.set, a.state, a.session, a.perm, a.time) || len(impl.Authorised(a.set, a.state, a.user, a.time)) != 4 || len(impl.Unused(a.set, a.events)) == 0 || len(impl.MineRoles(a.list)) == 0 {
		t.Errorf("the plain arguments tell nothing")
	}
}

func oddRoleTexts() []string {
	var texts []string
	for i, text := range oddTexts() {
		if i%8 == 0 {
			texts = append(texts, text)
		}
	}
	texts = append(texts, badWords()...)
	return append(texts, "ann", "bob", "boss", "clerk", "reader", "read", "pay", "s", "u", "R1", "a,b", longName("n"), strings.Repeat("a", 100000))
}

func TestRolesAnswerAtAnyText(t *testing.T) {
	for _, text := range oddRoleTexts() {
		for i, place := range []func(a *roleArguments){
			func(a *roleArguments) { a.role, a.user, a.session, a.perm = text, text, text, text },
			func(a *roleArguments) { a.user = text },
			func(a *roleArguments) { a.session = text },
			func(a *roleArguments) { a.perm = text },
			func(a *roleArguments) { a.set.Roles[1].Name = text },
			func(a *roleArguments) { a.set.Roles[1].Under[1] = text },
			func(a *roleArguments) { a.set.Roles[0].Perms[1] = text },
			func(a *roleArguments) { a.set.Parts[0].Roles[1] = text },
			func(a *roleArguments) { a.set.Glass[0] = text },
			func(a *roleArguments) { a.events[0].User = text },
			func(a *roleArguments) { a.events[4].Other = text },
			func(a *roleArguments) { a.events[4].Role = text },
			func(a *roleArguments) { a.events[4].Session = text },
			func(a *roleArguments) { a.events[9].Session = text },
			func(a *roleArguments) { a.state.Grants[3].User = text },
			func(a *roleArguments) { a.state.Grants[3].Role = text },
			func(a *roleArguments) { a.state.Grants[3].From = text },
			func(a *roleArguments) { a.state.Sessions[2].Id = text },
			func(a *roleArguments) { a.state.Sessions[2].User = text },
			func(a *roleArguments) { a.state.Sessions[2].Roles[0] = text },
			func(a *roleArguments) { a.state.Sessions[2].Glass[0].Role = text },
			func(a *roleArguments) { a.list[1].User = text },
			func(a *roleArguments) { a.list[1].Perms[1] = text },
		} {
			a := plainRoleArguments()
			place(&a)
			a.askWords(t, "place "+strconv.Itoa(i)+" of "+text)
		}
	}
}

func TestRolesAnswerAtAnyNumbers(t *testing.T) {
	for _, num := range append(oddInts(), 5, 6, 7, 8, 9, 10, 11, 12, 13, 15, 16, 1007, 1008, impl.MaxTime, impl.MaxTime+1, -impl.MaxTime) {
		for i, place := range []func(a *roleArguments){
			func(a *roleArguments) { a.time = num },
			func(a *roleArguments) { a.state.Time = num },
			func(a *roleArguments) { a.time, a.state.Time = num, num },
			func(a *roleArguments) { a.set.Parts[1].Most = num },
			func(a *roleArguments) { a.events[4].Kind = num },
			func(a *roleArguments) { a.events[4].Time = num },
			func(a *roleArguments) { a.events[4].Until = num },
			func(a *roleArguments) { a.events[4].Time, a.events[4].Until = num, num },
			func(a *roleArguments) { a.events[15].Until = num },
			func(a *roleArguments) { a.events[15].Time, a.events[15].Until = num, num },
			func(a *roleArguments) { a.events[0].Until = num },
			func(a *roleArguments) { a.state.Grants[4].Until = num },
			func(a *roleArguments) { a.state.Grants[4].Depth = num },
			func(a *roleArguments) { a.state.Grants[4].Since = num },
			func(a *roleArguments) { a.state.Sessions[2].Glass[0].Until = num },
			func(a *roleArguments) { a.state.Sessions[2].Glass[0].Depth = num },
			func(a *roleArguments) { a.state.Outcomes[0] = num },
		} {
			a := plainRoleArguments()
			place(&a)
			a.askWords(t, "place "+strconv.Itoa(i)+" of "+strconv.Itoa(num))
		}
	}
}

func oddRoleStates() []impl.RoleState {
	grant := impl.RoleGrant{User: "fay", Role: "boss", Until: 99}
	states := []impl.RoleState{
		{}, {Outcomes: []int{7, -1}}, {Grants: make([]impl.RoleGrant, 1)}, {Grants: make([]impl.RoleGrant, 300)}, {Grants: make([]impl.RoleGrant, 301)}, {Grants: make([]impl.RoleGrant, 100000)},
		{Sessions: make([]impl.RoleSession, 300)}, {Sessions: make([]impl.RoleSession, 301)}, {Sessions: make([]impl.RoleSession, 100000)},
		{Sessions: []impl.RoleSession{{Id: "u", User: "fay", Open: true, Roles: make([]string, 100000), Glass: make([]impl.RoleGrant, 100000)}}},
		{Grants: slices.Repeat([]impl.RoleGrant{grant}, 150), Sessions: slices.Repeat([]impl.RoleSession{openOf("u", "fay", "boss", "")}, 75)},
		stateOfSize(75, 75, 75, 75),
	}
	return append(states, heapOfGrants(40))
}

// heapOfGrants has so many grants of each depth: each leans on all of a lesser one, and none counts.
func heapOfGrants(many int) impl.RoleState {
	var st impl.RoleState
	for depth := range 3 {
		for range many {
			st.Grants = append(st.Grants, impl.RoleGrant{User: "fay", Role: "boss", From: "fay", Until: 99, Depth: depth})
		}
	}
	return st
}

func TestRolesAnswerAtAnyLists(t *testing.T) {
	ask := func(what string, change func(a *roleArguments)) {
		t.Helper()
		a := plainRoleArguments()
		change(&a)
		a.askWords(t, what)
	}
	for i, s := range append(goodRoleSets(), badRoleSets()...) {
		ask("set "+strconv.Itoa(i), func(a *roleArguments) { a.set = s })
	}
	for i, st := range oddRoleStates() {
		ask("state "+strconv.Itoa(i), func(a *roleArguments) { a.state = st })
	}
	for i, list := range append(goodHads(), badHads()...) {
		ask("list "+strconv.Itoa(i), func(a *roleArguments) { a.list = list })
	}
	for _, many := range []int{0, 1, 199, 200, 201, 100000} {
		ask(strconv.Itoa(many)+" events", func(a *roleArguments) { a.events = make([]impl.RoleEvent, many) })
		ask(strconv.Itoa(many)+" events", func(a *roleArguments) { a.events = slices.Repeat(a.events[:1], many) })
	}
	slow := heapOfRoles(impl.MaxRoles)
	for range 10 {
		slow.Parts = append(slow.Parts, impl.Apart{Roles: roleNames(slow), Most: 29})
	}
	ask("a heap", func(a *roleArguments) { a.set, a.role = slow, countedRole(0) })
	ask("nothing", func(a *roleArguments) { *a = roleArguments{} })
	// This one is asked without the words, which would take long.
	if st := heapOfGrants(100); impl.Authorised(firm(), st, "fay", 5) != nil || !impl.KeptApart(firm(), st, 5) {
		t.Errorf("a heap of grants: want nobody to be authorised")
	}
}

func roomyRoleSet(s impl.RoleSet) impl.RoleSet {
	s.Roles, s.Parts, s.Glass = withRoom(s.Roles, impl.Role{Name: "behind"}), withRoom(s.Parts, impl.Apart{Most: -7}), withRoom(s.Glass, "behind")
	for i, r := range s.Roles {
		s.Roles[i].Under, s.Roles[i].Perms = withRoom(r.Under, "behind"), withRoom(r.Perms, "behind")
	}
	for i, p := range s.Parts {
		s.Parts[i].Roles = withRoom(p.Roles, "behind")
	}
	return s
}

func openedRoleSet(s impl.RoleSet) impl.RoleSet {
	s.Roles, s.Parts, s.Glass = opened(s.Roles), opened(s.Parts), opened(s.Glass)
	for i, r := range s.Roles {
		s.Roles[i].Under, s.Roles[i].Perms = opened(r.Under), opened(r.Perms)
	}
	for i, p := range s.Parts {
		s.Parts[i].Roles = opened(p.Roles)
	}
	return s
}

func roomyRoleState(st impl.RoleState) impl.RoleState {
	st.Outcomes, st.Grants, st.Sessions = withRoom(st.Outcomes, -7), withRoom(st.Grants, impl.RoleGrant{Depth: -7}), withRoom(st.Sessions, impl.RoleSession{Id: "behind"})
	for i, s := range st.Sessions {
		st.Sessions[i].Roles, st.Sessions[i].Glass = withRoom(s.Roles, "behind"), withRoom(s.Glass, impl.RoleGrant{Depth: -7})
	}
	return st
}

func openedRoleState(st impl.RoleState) impl.RoleState {
	st.Outcomes, st.Grants, st.Sessions = opened(st.Outcomes), opened(st.Grants), opened(st.Sessions)
	for i, s := range st.Sessions {
		st.Sessions[i].Roles, st.Sessions[i].Glass = opened(s.Roles), opened(s.Glass)
	}
	return st
}

func roomyHads(list []impl.Had) []impl.Had {
	list = withRoom(list, impl.Had{User: "behind"})
	for i, h := range list {
		list[i].Perms = withRoom(h.Perms, "behind")
	}
	return list
}

func openedHads(list []impl.Had) []impl.Had {
	list = opened(list)
	for i, h := range list {
		list[i].Perms = opened(h.Perms)
	}
	return list
}

func (a roleArguments) roomy() roleArguments {
	a.set, a.events, a.state, a.list = roomyRoleSet(a.set), withRoom(a.events, impl.RoleEvent{Kind: -7}), roomyRoleState(a.state), roomyHads(a.list)
	return a
}

func (a roleArguments) opened() roleArguments {
	a.set, a.events, a.state, a.list = openedRoleSet(a.set), opened(a.events), openedRoleState(a.state), openedHads(a.list)
	return a
}

func scribbleRoles(roles []impl.Role) {
	for _, r := range roles {
		scribble(r.Under, "scribbled")
		scribble(r.Perms, "scribbled")
	}
	scribble(roles, impl.Role{Name: "scribbled"})
}

func scribbleRoleState(st impl.RoleState) {
	for _, s := range st.Sessions {
		scribble(s.Roles, "scribbled")
		scribble(s.Glass, impl.RoleGrant{Depth: -7})
	}
	scribble(st.Outcomes, -7)
	scribble(st.Grants, impl.RoleGrant{Depth: -7})
	scribble(st.Sessions, impl.RoleSession{Id: "scribbled"})
}

func (a roleArguments) scribbleOver() {
	scribbleRoles(a.set.Roles)
	for _, p := range a.set.Parts {
		scribble(p.Roles, "scribbled")
	}
	scribble(a.set.Parts, impl.Apart{Most: -7})
	scribble(a.set.Glass, "scribbled")
	scribble(a.events, impl.RoleEvent{Kind: -7})
	scribbleRoleState(a.state)
	for _, h := range a.list {
		scribble(h.Perms, "scribbled")
	}
	scribble(a.list, impl.Had{User: "scribbled"})
}

// roleAnswers are all that the functions of the chapter answer.
type roleAnswers struct {
	juniors    []string
	state      impl.RoleState
	authorised []string
	unused     []impl.RoleGrant
	mined      []impl.Role
	rest       [3]bool
}

func (a roleArguments) ask() roleAnswers {
	return roleAnswers{
		juniors:    impl.JuniorsOf(a.set, a.role),
		state:      impl.RunRoles(a.set, a.events),
		authorised: impl.Authorised(a.set, a.state, a.user, a.time),
		unused:     impl.Unused(a.set, a.events),
		mined:      impl.MineRoles(a.list),
		rest:       [3]bool{impl.GoodRoleSet(a.set), impl.MayDo(a.set, a.state, a.session, a.perm, a.time), impl.KeptApart(a.set, a.state, a.time)},
	}
}

// told is all of the answers as a text, in memory of its own.
func (r roleAnswers) told() string {
	return shown(r)
}

func (r roleAnswers) scribbleOver() {
	scribble(r.juniors, "scribbled")
	scribbleRoleState(r.state)
	scribble(r.authorised, "scribbled")
	scribble(r.unused, impl.RoleGrant{Depth: -7})
	scribbleRoles(r.mined)
}

func manyRoleArguments() []roleArguments {
	plain, from := plainRoleArguments(), drawn()
	all := []roleArguments{plain, {}}
	add := func(change func(a *roleArguments)) {
		a := plainRoleArguments()
		change(&a)
		all = append(all, a)
	}
	for many := range plain.events {
		add(func(a *roleArguments) { a.events = a.events[:many] })
	}
	for _, s := range goodRoleSets() {
		add(func(a *roleArguments) { a.set = s })
		if len(s.Roles) > 0 {
			add(func(a *roleArguments) { a.set, a.events = s, drawnHistory(from, s, 60) })
		}
	}
	for i, s := range badRoleSets() {
		if i%5 == 0 && len(s.Roles)+len(s.Parts)+len(s.Glass) < 5000 {
			add(func(a *roleArguments) { a.set = s })
		}
	}
	for _, st := range oddRoleStates() {
		if len(st.Grants)+len(st.Sessions) < 5000 {
			add(func(a *roleArguments) { a.state = st })
		}
	}
	for i, list := range append(goodHads(), badHads()...) {
		if i%3 == 0 && len(list) < 5000 {
			add(func(a *roleArguments) { a.list = list })
		}
	}
	for _, time := range []int{math.MinInt, -1, 0, 10, 11, 15, 16, math.MaxInt} {
		add(func(a *roleArguments) { a.time = time })
	}
	for range 150 {
		s := drawnRoleSet(from)
		a := roleArguments{s, drawnHistory(from, s, 40), drawnRoleState(from, s), drawnHads(from, 5, 7), s.Roles[0].Name, "ann", "s", "p", 5}
		all = append(all, a)
		a.state = stateByWords(a.set, a.events)
		a.time = a.state.Time
		all = append(all, a)
	}
	turned := plain.roomy()
	slices.Reverse(turned.events)
	slices.Reverse(turned.state.Grants)
	slices.Reverse(turned.state.Sessions)
	return append(all, turned)
}

func TestArgumentsOfRolesStayAsTheyWere(t *testing.T) {
	for i, plain := range manyRoleArguments() {
		plain.askWords(t, "arguments "+strconv.Itoa(i))
		a := plain.roomy()
		before := a.opened()
		first := a.ask()
		if !reflect.DeepEqual(a.opened(), before) {
			t.Errorf("arguments %d changed", i)
		}
		first.scribbleOver()
		if !reflect.DeepEqual(a.opened(), before) {
			t.Errorf("arguments %d changed with their answers", i)
		}
	}
}

func TestAnswersOfRolesShareNothing(t *testing.T) {
	lists := 0
	for i, plain := range manyRoleArguments() {
		a := plain.roomy()
		first, second := a.ask(), a.ask()
		spans := slices.Concat(spansOf(reflect.ValueOf(first), "first"), spansOf(reflect.ValueOf(second), "second"))
		own := spansOf(reflect.ValueOf(a), "argument")
		lists += len(spans)
		if found := shared(spans); found != "" {
			t.Errorf("answers %d share memory: %s", i, found)
		}
		for _, s := range spans {
			for _, o := range own {
				if s.from < o.to && o.from < s.to {
					t.Errorf("answers %d share memory: %s and %s", i, s.what, o.what)
				}
			}
		}
		kept := second.told()
		first.scribbleOver()
		a.scribbleOver()
		if second.told() != kept {
			t.Errorf("answers %d changed with their arguments, or with other answers", i)
		}
	}
	if lists < 5000 {
		t.Errorf("only %d lists", lists)
	}
}

func TestAnEmptyListOfRolesIsTheNilList(t *testing.T) {
	none := bank()
	empty := copiedRoleSet(none)
	for i, r := range empty.Roles {
		empty.Roles[i].Under, empty.Roles[i].Perms = append([]string{}, r.Under...), append([]string{}, r.Perms...)
	}
	events := eventsOf("1 assign ann a", "1 open s ann", "1 activate s b", "2 drop s b", "2 revoke ann a", "2 close s")
	for _, s := range []impl.RoleSet{none, empty, roomyRoleSet(empty)} {
		if got := impl.JuniorsOf(s, "b"); !slices.Equal(got, []string{"b"}) {
			t.Errorf("JuniorsOf: got %q", got)
		}
		want := impl.RoleState{Outcomes: make([]int, 6), Sessions: []impl.RoleSession{{Id: "s", User: "ann"}}, Time: 2}
		if got := askPromise(t, s, events); !reflect.DeepEqual(got, want) {
			t.Errorf("RunRoles: got %#v", got)
		}
		for _, few := range [][]impl.RoleEvent{nil, {}, events[:0]} {
			if got := impl.RunRoles(s, few); !reflect.DeepEqual(got, impl.RoleState{}) {
				t.Errorf("RunRoles: got %#v", got)
			}
			if impl.Unused(s, few) != nil {
				t.Errorf("Unused: want none")
			}
		}
		if got := impl.Unused(s, events[:3]); got != nil {
			t.Errorf("Unused: got %#v", got)
		}
		for _, st := range []impl.RoleState{{}, {Outcomes: []int{}, Grants: []impl.RoleGrant{}, Sessions: []impl.RoleSession{}}, {Sessions: []impl.RoleSession{{Id: "s", Roles: []string{}, Glass: []impl.RoleGrant{}}}}} {
			if impl.Authorised(s, st, "ann", 0) != nil || impl.MayDo(s, st, "s", "pa", 0) || !impl.KeptApart(s, st, 0) {
				t.Errorf("%#v: want nothing, and all apart", st)
			}
		}
	}
	for _, s := range []impl.RoleSet{{}, {Roles: []impl.Role{}, Parts: []impl.Apart{}, Glass: []string{}}} {
		if !impl.GoodRoleSet(s) || impl.JuniorsOf(s, "a") != nil {
			t.Errorf("%#v: want it good", s)
		}
	}
	for _, list := range [][]impl.Had{nil, {}, hadOf("ann x")[:0]} {
		if got := impl.MineRoles(list); got != nil {
			t.Errorf("MineRoles: got %s", minedText(got))
		}
	}
	if got := impl.MineRoles(roomyHads(hadOf("ann x"))); !reflect.DeepEqual(got, []impl.Role{{Name: "R1", Perms: []string{"x"}}}) {
		t.Errorf("MineRoles: got %#v", got)
	}
}

func TestRolesAnswerTheSameAgain(t *testing.T) {
	for i, a := range manyRoleArguments() {
		first := a.ask().told()
		for range 3 {
			if a.ask().told() != first {
				t.Errorf("answers %d are others when they are asked again", i)
			}
		}
	}
}

// Many ask at once, with the same arguments.
func TestRolesAtOnce(t *testing.T) {
	all := manyRoleArguments()
	var want []string
	for _, a := range all {
		want = append(want, a.ask().told())
	}
	var asking sync.WaitGroup
	for worker := range 8 {
		asking.Add(1)
		go func() {
			defer asking.Done()
			for i := worker % 3; i < len(all); i += 3 {
				if got := all[i].ask().told(); got != want[i] {
					t.Errorf("answers %d are others when many ask", i)
				}
			}
		}()
	}
	asking.Wait()
}
