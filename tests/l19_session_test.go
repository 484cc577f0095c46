package tests

import (
	"math"
	"slices"
	"strconv"
	"strings"
	"testing"

	"loop.example/g00036/impl"
)

func TestSessConstants(t *testing.T) {
	got := []int{impl.SessLogin, impl.SessUse, impl.SessRaise, impl.SessLogout, impl.SessLogoutAll}
	if want := []int{1, 2, 3, 4, 5}; !slices.Equal(got, want) {
		t.Errorf("got %v, want %v", got, want)
	}
}

func askGoodSessConf(t *testing.T, c impl.SessConf) bool {
	t.Helper()
	got := impl.GoodSessConf(c)
	if got != goodSessConfByWords(c) {
		t.Errorf("GoodSessConf(%.200s): got %v", shown(c), got)
	}
	return got
}

func TestGoodSessConf(t *testing.T) {
	for _, c := range goodSessConfs() {
		if !askGoodSessConf(t, c) {
			t.Errorf("%.200s: want it good", shown(c))
		}
		if got := askSessions(t, c, sessDay()); len(got) != len(sessDay()) {
			t.Errorf("%.200s: got %d replies", shown(c), len(got))
		}
	}
	for _, c := range badSessConfs() {
		if askGoodSessConf(t, c) {
			t.Errorf("%.200s: want it not good", shown(c))
		}
		// Nothing is answered then, not even to events that are not as said.
		for _, events := range [][]impl.SessEvent{nil, sessDay(), make([]impl.SessEvent, 3)} {
			for _, time := range []int{0, 9, lastTime} {
				if got := impl.SignedIn(c, events, time); got != nil {
					t.Errorf("%.200s: got %s", shown(c), shown(got))
				}
			}
			if got := impl.RunSessions(c, events); got != nil {
				t.Errorf("%.200s: got %s", shown(c), shown(got))
			}
		}
	}
	for length := range 140 {
		if askGoodSessConf(t, impl.SessConf{Key: make([]byte, length), Idle: 1, Most: 1}) != (length <= 64) {
			t.Errorf("a key of %d bytes", length)
		}
	}
	for _, time := range append(oddInts(), 0, 1, 2, 64, 999999, 1000000, 1000001, lastTime) {
		want := 1 <= time && time <= 1000000
		if askGoodSessConf(t, impl.SessConf{Idle: time, Most: 1}) != want || askGoodSessConf(t, impl.SessConf{Idle: 1, Most: time}) != want || askGoodSessConf(t, impl.SessConf{Idle: time, Most: time}) != want {
			t.Errorf("%d: want %v", time, want)
		}
	}
	// Neither need be the lesser one.
	for _, c := range []impl.SessConf{{Idle: 30, Most: 10}, {Idle: 1000000, Most: 1}, {Idle: 1, Most: 1000000}} {
		if !askGoodSessConf(t, c) {
			t.Errorf("%s: want it good", shown(c))
		}
	}
}

// timesOf are all times at which something ends that a story has, and those beside them.
func (h sessStory) timesOf() []int {
	now := h.now()
	times := []int{math.MinInt, -1, 0, now - 1, now, now + 1, lastTime, lastTime + 1, math.MaxInt}
	for _, login := range h.logins() {
		for _, end := range []int{h.lastUse(login) + h.conf.Idle, h.done[login].event.Time + h.conf.Most} {
			times = append(times, end-1, end, end+1)
		}
	}
	slices.Sort(times)
	return slices.Compact(times)
}

// askReplied holds the replies against a story.
func askReplied(t *testing.T, h sessStory) []impl.SessReply {
	t.Helper()
	events, want := h.events(), h.replies()
	got := impl.RunSessions(h.conf, events)
	if len(got) != len(want) {
		t.Fatalf("got %d replies to %d events", len(got), len(want))
	}
	for i, reply := range got {
		if reply != want[i] {
			t.Errorf("event %d of %.900s: got %s, want %s", i, shown(events), sessReplyText(reply), sessReplyText(want[i]))
		}
		if reply.Err != 0 && reply != (impl.SessReply{Err: reply.Err}) {
			t.Errorf("event %d: an Err, and %s", i, shown(reply))
		}
	}
	return got
}

// askSignedIn holds who is signed in at some times against a story.
func askSignedIn(t *testing.T, h sessStory, times ...int) {
	t.Helper()
	events := h.events()
	for _, time := range times {
		want := h.signedIn(time)
		if time < h.now() {
			want = nil
		}
		if got := impl.SignedIn(h.conf, events, time); !slices.Equal(got, want) {
			t.Errorf("SignedIn at %d behind %.900s: got %s, want %s", time, shown(events), sessRepliesText(got), sessRepliesText(want))
		}
	}
}

func askStory(t *testing.T, h sessStory) []impl.SessReply {
	t.Helper()
	askSignedIn(t, h, h.timesOf()...)
	return askReplied(t, h)
}

// askSessions holds the replies against the words, and who is signed in at all times that count.
func askSessions(t *testing.T, c impl.SessConf, events []impl.SessEvent) []impl.SessReply {
	t.Helper()
	h, ok := sessionsByWords(c, events)
	if ok {
		return askStory(t, h)
	}
	if got := impl.RunSessions(c, events); got != nil {
		t.Errorf("RunSessions(%.200s, %d events): got %.200s", shown(c), len(events), shown(got))
	}
	for _, time := range []int{math.MinInt, 0, 9, lastTime, math.MaxInt} {
		if got := impl.SignedIn(c, events, time); got != nil {
			t.Errorf("SignedIn(%.200s, %d events, %d): got %.200s", shown(c), len(events), time, shown(got))
		}
	}
	return nil
}

// wantSessions asks what is told in the lines, each with its reply behind it.
func wantSessions(t *testing.T, lines ...string) {
	t.Helper()
	replies := askSessions(t, plainSessConf(), sessEventsOf(lines...))
	for i, line := range lines {
		_, want, ok := strings.Cut(line, " -> ")
		if got := sessReplyText(replies[i]); got != want || !ok {
			t.Errorf("%d: %s: got %s", i, line, got)
		}
	}
}

// wantSignedIn tells who is signed in behind the lines, each as `2 ann 1`: the number of the Id, the User, the Level.
func wantSignedIn(t *testing.T, lines []string, time int, want ...string) {
	t.Helper()
	events := sessEventsOf(lines...)
	got := impl.SignedIn(plainSessConf(), events, time)
	if sessRepliesText(got) != strings.Join(want, "; ") {
		t.Errorf("at %d: got %s, want %s", time, sessRepliesText(got), strings.Join(want, "; "))
	}
	if byWords := signedInByWords(plainSessConf(), events, time); !slices.Equal(got, byWords) {
		t.Errorf("at %d: got %s, want %s", time, sessRepliesText(got), sessRepliesText(byWords))
	}
}

// The line with which many stories begin: ann signs in.
const annIn = "1 login ann pc -> 1 ann 1"

func TestRunSessionsOfNoEvent(t *testing.T) {
	for _, c := range goodSessConfs() {
		for _, events := range [][]impl.SessEvent{nil, {}} {
			if got := askSessions(t, c, events); got != nil {
				t.Errorf("got %s", shown(got))
			}
		}
	}
}

func TestRunSessionsOfManyEvents(t *testing.T) {
	for _, many := range []int{1, 2, 99, 199, 200, 201, 202, 5000} {
		for _, e := range []impl.SessEvent{sessEventOf("1 login ann pc"), {}, sessEventOf("0 use 1 pc"), sessEventOf("3 everywhere ann")} {
			events := slices.Repeat([]impl.SessEvent{e}, many)
			if got := len(askSessions(t, plainSessConf(), events)); many <= 200 && got != many || many > 200 && got != 0 {
				t.Errorf("%d events: got %d replies", many, got)
			}
		}
	}
	// The last of as many events as there may be counts.
	lines := append(slices.Repeat([]string{"1 everywhere bob -> bob"}, 197), annIn, "2 raise 1 pc -> 2 ann 2", "3 use 2 tv -> stolen")
	wantSessions(t, lines...)
	wantSignedIn(t, lines[:199], 2, "2 ann 2")
	wantSignedIn(t, lines, 3)
	wantSignedIn(t, append(lines, "3 login ann pc"), 3)
	// As many Ids as two hundred events can give.
	replies := askSessions(t, plainSessConf(), slices.Repeat(sessEventsOf("1 login ann pc"), 200))
	if got := replies[199].Id; got != "sess200-mb90as83n545qujg" {
		t.Errorf("got %q", got)
	}
}

// The Ids were worked out outside of Go.
func TestIdsOfSessions(t *testing.T) {
	for _, told := range []struct {
		key  string
		want []string
	}{
		{"k", []string{"sess1-giclu7301rdna27r", "sess2-60m0ao1r1dgj6c0g", "sess3-2607u50j5rnjpnea"}},
		{"", []string{"sess1-odbfqu0fn7l3esa6"}},
		{strings.Repeat("\x00", 64), []string{"sess1-5rvgimt6sul0ffsp"}},
	} {
		for i, want := range told.want {
			c := impl.SessConf{Key: []byte(told.key), Idle: 1, Most: 1}
			for _, replies := range [][]impl.SessReply{
				askSessions(t, c, slices.Repeat(sessEventsOf("1 login ann pc"), i+1)),
				impl.SignedIn(c, slices.Repeat(sessEventsOf("1 login ann pc"), i+1), 1),
			} {
				if got := replies[i]; got != (impl.SessReply{Id: want, User: "ann", Level: 1}) {
					t.Errorf("%q: got %s, want %s", told.key, shown(got), want)
				}
			}
		}
	}
	// They are handles: the key and the number say which.
	for i, reply := range askSessions(t, plainSessConf(), slices.Repeat(sessEventsOf("1 login ann pc"), 200)) {
		if want := impl.HandleOf(plainSessConf().Key, "sess", 1+i); reply.Id != want {
			t.Errorf("%d: got %q, want %q", i, reply.Id, want)
		}
	}
}

func TestLogins(t *testing.T) {
	wantSessions(t, "0 login ann pc -> 1 ann 1", "0 login bob pc -> 2 bob 1", "0 login ann tv -> 3 ann 1", "1 use 2 pc -> 2 bob 1", "1 use 1 pc -> 1 ann 1", "1 use 3 tv -> 3 ann 1")
	// One user on one device twice: two sessions, of which each lives by itself.
	twice := []string{annIn, "2 login ann pc -> 2 ann 1"}
	wantSignedIn(t, twice, 2, "1 ann 1", "2 ann 1")
	wantSessions(t, append(twice, "3 use 1 pc -> 1 ann 1", "3 raise 2 pc -> 3 ann 2", "4 use 1 pc -> 1 ann 1", "4 use 2 pc -> stolen", "4 use 3 pc -> dead", "4 use 1 pc -> 1 ann 1", "5 logout 1 pc -> 1 ann 1", "5 use 1 pc -> dead")...)
	wantSessions(t, append(twice, "3 logout 2 pc -> 2 ann 1", "3 use 2 pc -> dead", "3 use 1 pc -> 1 ann 1", "3 login ann pc -> 3 ann 1", "3 use 3 pc -> 3 ann 1")...)
	// Only what was used has a later end.
	wantSessions(t, append(twice, "11 use 2 pc -> 2 ann 1", "12 use 1 pc -> over", "12 use 2 pc -> 2 ann 1")...)
	wantSessions(t, append(twice, "11 use 1 pc -> 1 ann 1", "13 use 2 pc -> over", "13 use 1 pc -> 1 ann 1")...)
	// The longest names, and names that are alike but for a byte.
	long := longName("n")
	wantSessions(t, "1 login "+long+" "+long+" -> 1 "+long+" 1", "1 use 1 "+long+" -> 1 "+long+" 1", "1 use 1 "+long[1:]+" -> stolen", "1 everywhere "+long+" -> "+long)
	wantSessions(t, "1 login A A -> 1 A 1", "1 login a a -> 2 a 1", "1 login _ _9 -> 3 _ 1", "1 everywhere a -> a", "1 use 1 A -> 1 A 1", "1 use 2 a -> dead", "1 use 1 a -> stolen", "1 use 3 _9 -> 3 _ 1")
}

// What each kind of event answers, and what it leaves.
func TestUses(t *testing.T) {
	wantSessions(t, annIn, "2 use 1 pc -> 1 ann 1", "2 use 1 pc -> 1 ann 1", "3 use 1 pc -> 1 ann 1")
	wantSessions(t, annIn, "2 raise 1 pc -> 2 ann 2", "2 raise 2 pc -> 3 ann 3", "3 use 3 pc -> 3 ann 3")
	wantSessions(t, annIn, "2 raise 1 pc -> 2 ann 2", "2 logout 2 pc -> 2 ann 2", "2 logout 2 pc -> dead", "3 login ann pc -> 3 ann 1")
	wantSessions(t, annIn, "2 everywhere ann -> ann", "2 use 1 pc -> dead", "2 everywhere ann -> ann", "3 login ann pc -> 2 ann 1", "3 use 2 pc -> 2 ann 1")
	wantSignedIn(t, []string{annIn, "2 use 1 pc"}, 2, "1 ann 1")
	wantSignedIn(t, []string{annIn, "2 raise 1 pc"}, 2, "2 ann 2")
	wantSignedIn(t, []string{annIn, "2 logout 1 pc"}, 2)
	wantSignedIn(t, []string{annIn, "2 everywhere ann"}, 2)
}

// An old Id ends its session, however old it is, and then the right one says so.
func TestOldIds(t *testing.T) {
	for _, kind := range []string{"use", "raise", "logout"} {
		once := []string{annIn, "2 raise 1 pc -> 2 ann 2"}
		wantSignedIn(t, append(once, "3 "+kind+" 1 pc"), 3)
		for _, device := range []string{"pc", "tv"} {
			old := "3 " + kind + " 1 " + device + " -> stolen"
			wantSessions(t, append(once, old, "3 use 2 pc -> dead", "3 raise 2 pc -> dead", "3 logout 2 pc -> dead", "3 use 2 tv -> stolen", old, "4 login ann pc -> 3 ann 1")...)
			wantSessions(t, append(once, "3 use 2 pc -> 2 ann 2", old, "3 use 2 pc -> dead")...)
			several := append(once, "2 raise 2 pc -> 3 ann 3", "2 raise 3 pc -> 4 ann 4")
			for id := 1; id <= 3; id++ {
				old := "3 " + kind + " " + strconv.Itoa(id) + " " + device + " -> stolen"
				wantSessions(t, append(several, old, "3 use 4 pc -> dead", old, "3 use 4 pc -> dead", "3 use 4 tv -> stolen")...)
				wantSignedIn(t, append(several, old), 3)
			}
			wantSignedIn(t, several, 3, "4 ann 4")
		}
	}
	// Another's session lives on, though its Ids stand between.
	wantSessions(t, annIn, "1 login bob pc -> 2 bob 1", "1 raise 1 pc -> 3 ann 2", "1 raise 2 pc -> 4 bob 2", "1 use 1 pc -> stolen", "1 use 3 pc -> dead", "1 use 4 pc -> 4 bob 2", "1 use 2 pc -> stolen", "1 use 4 pc -> dead")
}

func TestOtherDevices(t *testing.T) {
	for _, kind := range []string{"use", "raise", "logout"} {
		stolen := "2 " + kind + " 1 tv -> stolen"
		wantSessions(t, annIn, stolen, "2 use 1 pc -> dead", "2 raise 1 pc -> dead", "2 logout 1 pc -> dead", stolen, "2 use 1 pc -> dead")
		wantSignedIn(t, []string{annIn, stolen}, 2)
		// A device on which that user, or another one, has a session is another one all the same.
		wantSessions(t, annIn, "1 login ann tv -> 2 ann 1", stolen, "2 use 1 pc -> dead", "2 use 2 tv -> 2 ann 1")
		wantSessions(t, annIn, "1 login bob tv -> 2 bob 1", stolen, "2 use 1 pc -> dead", "2 use 2 tv -> 2 bob 1")
		wantSessions(t, annIn, "1 raise 1 pc -> 2 ann 2", "2 "+kind+" 2 tv -> stolen", "2 use 2 pc -> dead", "2 use 1 pc -> stolen")
	}
	for _, device := range []string{"PC", "p", "pcc", "_pc", "ann", longName("d")} {
		wantSessions(t, annIn, "2 use 1 "+device+" -> stolen", "2 use 1 pc -> dead")
	}
}

// Of a session that is dead or over an old Id and another device are told first; they make one that is over dead.
func TestStolenIsToldAheadOfDeadAndOver(t *testing.T) {
	raised := []string{annIn, "1 raise 1 pc -> 2 ann 2"}
	for _, end := range []string{"2 logout 2 pc -> 2 ann 2", "2 everywhere ann -> ann", "2 use 2 tv -> stolen", "2 use 1 pc -> stolen"} {
		wantSessions(t, slices.Concat(raised, []string{end, "2 use 2 pc -> dead", "2 use 1 pc -> stolen", "2 use 2 tv -> stolen", "2 use 1 tv -> stolen", "2 use 2 pc -> dead", "99 use 2 pc -> dead", "99 use 1 pc -> stolen", "99 use 2 tv -> stolen"})...)
	}
	for _, stolen := range []string{"12 use 1 pc -> stolen", "12 use 2 tv -> stolen", "12 use 1 tv -> stolen", "12 raise 1 pc -> stolen", "12 logout 2 tv -> stolen"} {
		wantSessions(t, slices.Concat(raised, []string{"12 use 2 pc -> over", stolen, "12 use 2 pc -> dead"})...)
	}
	wantSessions(t, slices.Concat(raised, []string{"12 use 2 pc -> over", "12 everywhere ann -> ann", "12 use 2 pc -> dead"})...)
	wantSessions(t, slices.Concat(raised, []string{"12 logout 2 pc -> over", "12 use 2 pc -> over", "12 raise 2 pc -> over"})...)
}

func TestIdle(t *testing.T) {
	for _, kind := range []string{"use", "raise", "logout"} {
		reply := map[string]string{"use": "1 ann 1", "raise": "2 ann 2", "logout": "1 ann 1"}[kind]
		for time, want := range map[string]string{"1": reply, "2": reply, "10": reply, "11": reply, "12": "over", "13": "over", "30": "over", "31": "over", "32": "over", "100000000000": "over"} {
			wantSessions(t, annIn, time+" "+kind+" 1 pc -> "+want)
		}
		for time, want := range map[string]string{"15": reply, "16": "over"} {
			wantSessions(t, annIn, "3 use 1 pc -> 1 ann 1", "5 use 1 pc -> 1 ann 1", time+" "+kind+" 1 pc -> "+want)
		}
	}
	// A raise is a use, too.
	wantSessions(t, annIn, "9 raise 1 pc -> 2 ann 2", "19 use 2 pc -> 2 ann 2", "30 use 2 pc -> over")
	wantSignedIn(t, []string{annIn, "9 raise 1 pc"}, 19, "2 ann 2")
	wantSignedIn(t, []string{annIn, "9 raise 1 pc"}, 20)
	// What is over stays so.
	wantSessions(t, annIn, "12 use 1 pc -> over", "12 use 1 pc -> over", "13 raise 1 pc -> over", "13 logout 1 pc -> over", "99 use 1 pc -> over")
}

func TestMost(t *testing.T) {
	walked := []string{annIn, "11 use 1 pc -> 1 ann 1", "21 use 1 pc -> 1 ann 1"}
	wantSessions(t, append(walked, "31 use 1 pc -> 1 ann 1", "31 use 1 pc -> 1 ann 1", "32 use 1 pc -> over", "32 use 1 pc -> over")...)
	wantSessions(t, append(walked, "30 raise 1 pc -> 2 ann 2", "31 raise 2 pc -> 3 ann 3", "32 raise 3 pc -> over", "33 logout 3 pc -> over")...)
	wantSessions(t, append(walked, "30 use 1 pc -> 1 ann 1", "32 use 1 pc -> over")...)
	wantSignedIn(t, append(walked, "30 use 1 pc"), 31, "1 ann 1")
	wantSignedIn(t, append(walked, "30 use 1 pc"), 32)
	wantSignedIn(t, walked, 31, "1 ann 1")
	wantSignedIn(t, walked, 32)
	// A login later is for longer.
	wantSessions(t, append(walked, "21 login ann pc -> 2 ann 1", "31 use 2 pc -> 2 ann 1", "32 use 1 pc -> over", "41 use 2 pc -> 2 ann 1", "51 use 2 pc -> 2 ann 1", "52 use 2 pc -> over")...)
	// Where Most is less than Idle, or as much, it counts alone.
	for _, most := range []int{1, 5, 10} {
		c := impl.SessConf{Key: []byte("k"), Idle: 10, Most: most}
		for _, use := range []int{1, 1 + most/2, 1 + most, 2 + most, 3 + most} {
			events := sessEventsOf("1 login ann pc", "1 use 1 pc", "1 use 1 pc")
			events[2].Time = use
			if got := askSessions(t, c, events)[2].Err; (got == 6) != (use > 1+most) {
				t.Errorf("Most %d: at %d got %d", most, use, got)
			}
		}
	}
	// The greatest of both, from the first time on.
	c := impl.SessConf{Key: []byte("k"), Idle: 1000000, Most: 1000000}
	for _, use := range []int{0, 999999, 1000000, 1000001, lastTime} {
		events := sessEventsOf("0 login ann pc", "0 use 1 pc")
		events[1].Time = use
		if got := askSessions(t, c, events)[1].Err; (got == 6) != (use > 1000000) {
			t.Errorf("at %d got %d", use, got)
		}
	}
}

// An event with an Err is no use of any session: the last use stays the one that was done.
func TestAnErrIsNoUse(t *testing.T) {
	for line, err := range map[string]string{
		"9 use 7 pc": "unknown", "9 use - pc": "unknown", "9 use x pc": "unknown", "9 use 2 tv": "stolen", "9 raise 2 pc": "dead", "9 logout 2 pc": "dead",
	} {
		ahead := []string{annIn, "1 login bob pc -> 2 bob 1", "1 login cy pc -> 3 cy 1"}
		if err == "dead" {
			ahead = append(ahead, "1 logout 2 pc -> 2 bob 1")
		}
		wantSessions(t, append(ahead, line+" -> "+err, "11 use 1 pc -> 1 ann 1", "12 use 3 pc -> over", "12 use 1 pc -> 1 ann 1")...)
		wantSignedIn(t, append(ahead, line), 12)
	}
	// Nor is one that shows the Id of the session itself.
	for _, unfit := range []impl.SessEvent{
		{Kind: impl.SessUse, Time: 9, Id: idIn("1"), Device: "p c"}, {Kind: impl.SessUse, Time: 9, Id: idIn("1"), Device: "pc", User: "ann"}, {Kind: 6, Time: 9, Id: idIn("1"), Device: "pc"},
		{Kind: impl.SessUse, Time: lastTime + 1, Id: idIn("1"), Device: "pc"}, {Kind: impl.SessUse, Time: -1, Id: idIn("1"), Device: "pc"}, {Kind: impl.SessUse, Time: 0, Id: idIn("1"), Device: "pc"},
	} {
		for time, want := range map[int]int{11: 0, 12: 6} {
			last := sessEventOf("0 use 1 pc")
			last.Time = time
			replies := askSessions(t, plainSessConf(), append(sessEventsOf(annIn), unfit, last))
			if replies[1].Err == 0 || replies[2].Err != want {
				t.Errorf("%s: got %s, want %d at %d", shown(unfit), sessRepliesText(replies), want, time)
			}
		}
	}
	// What is over is not used by asking for it, and what is dead never is over.
	wantSessions(t, annIn, "12 use 1 pc -> over", "13 use 1 pc -> over", "22 use 1 pc -> over")
	wantSignedIn(t, []string{annIn, "12 use 1 pc"}, 12)
	wantSessions(t, annIn, "2 logout 1 pc -> 1 ann 1", "9 use 1 pc -> dead", "20 use 1 pc -> dead", "99 use 1 pc -> dead")
}

// Each raise is one Level more, up to the ninth, and each has a new Id, those at the ninth as well.
func TestRaises(t *testing.T) {
	lines := []string{annIn}
	for id := 1; id <= 12; id++ {
		lines = append(lines, "1 raise "+strconv.Itoa(id)+" pc -> "+strconv.Itoa(id+1)+" ann "+strconv.Itoa(min(id+1, 9)))
		wantSessions(t, append(slices.Clone(lines), "1 use "+strconv.Itoa(id+1)+" pc -> "+strconv.Itoa(id+1)+" ann "+strconv.Itoa(min(id+1, 9)), "1 logout "+strconv.Itoa(id)+" pc -> stolen")...)
		wantSignedIn(t, lines, 1, strconv.Itoa(id+1)+" ann "+strconv.Itoa(min(id+1, 9)))
	}
	wantSessions(t, lines...)
	// A login later begins at Level 1 again.
	wantSessions(t, append(lines, "1 login ann pc -> 14 ann 1", "1 use 13 pc -> 13 ann 9", "1 raise 14 pc -> 15 ann 2", "1 use 13 pc -> 13 ann 9")...)
}

// The Ids are numbered as they are given: what had an Err took none, nor did what gives no new one.
func TestNumbersOfIds(t *testing.T) {
	between := []string{"1 use 77 pc -> unknown", "1 raise - pc -> unknown", "1 use 1 pc -> 1 ann 1", "1 everywhere nobody -> nobody", "0 login ann pc -> past", "0 raise 1 pc -> past"}
	lines := slices.Concat([]string{annIn}, between, []string{"1 login bob tv -> 2 bob 1"}, between, []string{"1 raise 2 tv -> 3 bob 2"}, between, []string{"1 raise 2 tv -> stolen", "1 raise 3 tv -> dead", "1 login cy tv -> 4 cy 1", "1 logout 4 tv -> 4 cy 1", "1 login cy tv -> 5 cy 1", "1 raise 1 pc -> 6 ann 2", "12 raise 6 pc -> over", "12 login ann pc -> 7 ann 1"})
	wantSessions(t, lines...)
	for i, e := range []impl.SessEvent{{}, {Kind: impl.SessLogin, Time: 1, User: "a b", Device: "pc"}, {Kind: impl.SessLogin, Time: 1, User: "ann"}, {Kind: impl.SessLogin, Time: 1, User: "ann", Device: "pc", Id: "x"}, {Kind: impl.SessRaise, Time: 1, Id: idIn("1"), Device: ""}} {
		replies := askSessions(t, plainSessConf(), append(append(sessEventsOf(annIn), e), sessEventOf("1 login bob tv")))
		if replies[1].Err != 1 || replies[2].Id != idIn("2") {
			t.Errorf("%d: got %s", i, sessRepliesText(replies))
		}
	}
}

func TestLogout(t *testing.T) {
	wantSessions(t, annIn, "2 logout 1 pc -> 1 ann 1", "2 use 1 pc -> dead", "2 raise 1 pc -> dead", "2 logout 1 pc -> dead", "2 use 1 tv -> stolen", "12 use 1 pc -> dead", "99 use 1 pc -> dead", "99 login ann pc -> 2 ann 1", "99 use 1 pc -> dead", "99 use 2 pc -> 2 ann 1")
	// The others of the user live on.
	lines := []string{annIn, "1 login ann pc -> 2 ann 1", "1 login ann tv -> 3 ann 1", "1 login bob pc -> 4 bob 1", "1 logout 2 pc -> 2 ann 1"}
	wantSignedIn(t, lines, 1, "1 ann 1", "3 ann 1", "4 bob 1")
	wantSessions(t, append(lines, "1 use 1 pc -> 1 ann 1", "1 use 3 tv -> 3 ann 1", "1 use 4 pc -> 4 bob 1", "1 use 2 pc -> dead")...)
	// It tells the Id it had, with the Level.
	wantSessions(t, annIn, "1 raise 1 pc -> 2 ann 2", "1 raise 2 pc -> 3 ann 3", "1 logout 3 pc -> 3 ann 3", "1 use 3 pc -> dead", "1 use 2 pc -> stolen", "1 use 1 pc -> stolen")
}

func TestLogoutAll(t *testing.T) {
	// Of a user with none; nothing is dead by it then, nor what comes behind it.
	wantSessions(t, "0 everywhere ann -> ann", "0 everywhere ann -> ann", annIn, "1 everywhere bob -> bob", "1 use 1 pc -> 1 ann 1")
	wantSignedIn(t, []string{"0 everywhere ann", annIn, "1 everywhere bob"}, 1, "1 ann 1")
	// Of one.
	wantSessions(t, annIn, "2 everywhere ann -> ann", "2 use 1 pc -> dead", "2 raise 1 pc -> dead", "2 logout 1 pc -> dead", "2 use 1 tv -> stolen", "50 use 1 pc -> dead")
	// Of several, on one device or more, raised or not.
	several := []string{annIn, "1 login bob pc -> 2 bob 1", "1 login ann pc -> 3 ann 1", "1 login ann tv -> 4 ann 1", "1 raise 3 pc -> 5 ann 2", "1 login cy pc -> 6 cy 1"}
	wantSignedIn(t, several, 1, "1 ann 1", "2 bob 1", "5 ann 2", "4 ann 1", "6 cy 1")
	wantSignedIn(t, append(several, "1 everywhere ann"), 1, "2 bob 1", "6 cy 1")
	wantSessions(t, append(several, "1 everywhere ann -> ann", "1 use 1 pc -> dead", "1 use 5 pc -> dead", "1 use 3 pc -> stolen", "1 use 4 tv -> dead", "1 use 2 pc -> 2 bob 1", "1 use 6 pc -> 6 cy 1", "1 everywhere bob -> bob", "1 use 2 pc -> dead", "1 use 6 pc -> 6 cy 1")...)
	// Of those that are over, or dead already; what was over is dead then.
	wantSessions(t, annIn, "12 use 1 pc -> over", "12 everywhere ann -> ann", "12 use 1 pc -> dead")
	wantSessions(t, annIn, "2 logout 1 pc -> 1 ann 1", "2 everywhere ann -> ann", "2 everywhere ann -> ann", "2 use 1 pc -> dead", "2 use 1 tv -> stolen", "2 everywhere ann -> ann")
	wantSessions(t, annIn, "1 login ann tv -> 2 ann 1", "2 use 1 tv -> stolen", "2 everywhere ann -> ann", "2 use 2 tv -> dead", "2 use 1 pc -> dead")
	// What comes behind it lives, until it comes again.
	wantSessions(t, annIn, "2 everywhere ann -> ann", "2 login ann pc -> 2 ann 1", "2 use 2 pc -> 2 ann 1", "2 use 1 pc -> dead", "2 login ann tv -> 3 ann 1", "2 everywhere ann -> ann", "2 use 2 pc -> dead", "2 use 3 tv -> dead", "2 login ann pc -> 4 ann 1", "2 use 4 pc -> 4 ann 1")
	wantSignedIn(t, []string{annIn, "2 everywhere ann", "2 login ann pc", "2 login ann tv"}, 2, "2 ann 1", "3 ann 1")
	// One with an Err signs nobody out.
	for _, e := range []impl.SessEvent{
		{Kind: impl.SessLogoutAll, Time: 1}, {Kind: impl.SessLogoutAll, Time: 1, User: "ann", Device: "pc"}, {Kind: impl.SessLogoutAll, Time: 1, User: "ann", Id: idIn("1")}, {Kind: impl.SessLogoutAll, Time: 0, User: "ann"}, {Kind: impl.SessLogoutAll, Time: lastTime + 1, User: "ann"}, {Kind: impl.SessLogoutAll, Time: 1, User: "ann "},
	} {
		replies := askSessions(t, plainSessConf(), append(append(sessEventsOf(annIn), e), sessEventOf("1 use 1 pc")))
		if replies[1].Err == 0 || replies[2].Err != 0 {
			t.Errorf("%s: got %s", shown(e), sessRepliesText(replies))
		}
	}
}

// Who knows an Id ahead of its being given gets nothing by it, and it is no older one later.
func TestIdsAheadOfTheirBeingGiven(t *testing.T) {
	wantSessions(t,
		"0 use 1 pc -> unknown", "0 raise 1 pc -> unknown", "0 logout 1 pc -> unknown", "0 use 1 tv -> unknown", annIn, "1 use 2 pc -> unknown", "1 logout 2 tv -> unknown", "1 use 1 pc -> 1 ann 1",
		"1 raise 1 pc -> 2 ann 2", "1 use 3 pc -> unknown", "1 use 2 pc -> 2 ann 2", "1 login bob pc -> 3 bob 1", "1 use 3 pc -> 3 bob 1",
	)
	for _, id := range strangeIds() {
		for _, kind := range kindsWithIds() {
			e := impl.SessEvent{Kind: kind, Time: 1, Id: id, Device: "pc"}
			replies := askSessions(t, plainSessConf(), append(append(sessEventsOf(annIn), e), sessEventOf("1 use 1 pc")))
			if replies[1].Err != 3 || replies[2].Err != 0 {
				t.Errorf("%.80q: got %s", id, sessRepliesText(replies))
			}
		}
	}
}

func TestFieldsOfSessEvents(t *testing.T) {
	for kind := 1; kind <= 5; kind++ {
		for i, spoil := range unfitSpoils(kind) {
			c := plainSessCase(kind)
			spoil(&c)
			replies := askSessions(t, c.conf, append(c.events(), plainSessCase(kind).last))
			if replies[1].Err != 1 || replies[2].Err != 0 {
				t.Errorf("%s, way %d: got %s", wordsOfSess[kind], i, sessRepliesText(replies))
			}
		}
		// What is told may be any name, and an Id anything.
		for _, name := range []string{"a", "Z", "_", "_9", "a1", longName("n"), longName("_")} {
			for _, field := range strings.Fields(fieldsOfSess[kind]) {
				c := plainSessCase(kind)
				switch field {
				case "User":
					c.last.User = name
				case "Device":
					c.ahead[0].Device, c.last.Device = name, name
				case "Id":
					c.last.Id = name
				}
				want := 0
				if field == "Id" {
					want = 3
				}
				if replies := askSessions(t, c.conf, c.events()); replies[1].Err != want {
					t.Errorf("%s with %s %q: got %s", wordsOfSess[kind], field, name, sessRepliesText(replies))
				}
			}
		}
	}
	for x := range 256 {
		single := string([]byte{byte(x)})
		for _, text := range []string{single, "a" + single, single + "a"} {
			for _, e := range []impl.SessEvent{{Kind: impl.SessLogin, User: text, Device: "pc"}, {Kind: impl.SessLogin, User: "ann", Device: text}, {Kind: impl.SessUse, Id: "x", Device: text}, {Kind: impl.SessLogoutAll, User: text}} {
				if got := askSessions(t, plainSessConf(), []impl.SessEvent{e})[0].Err; (got == 1) != !changeName.MatchString(text) {
					t.Errorf("%s: got %d", shown(e), got)
				}
			}
		}
	}
	for _, length := range []int{0, 1, 29, 30, 31, 199, 200, 201, 9000} {
		text := strings.Repeat("n", length)
		for i, e := range []impl.SessEvent{{Kind: impl.SessLogin, User: text, Device: "pc"}, {Kind: impl.SessLogin, User: "ann", Device: text}, {Kind: impl.SessUse, Device: text}, {Kind: impl.SessRaise, Device: text}, {Kind: impl.SessLogout, Device: text}, {Kind: impl.SessLogoutAll, User: text}} {
			if got := askSessions(t, plainSessConf(), []impl.SessEvent{e})[0].Err; (got == 1) != (length < 1 || length > 30) {
				t.Errorf("%d bytes in %d: got %d", length, i, got)
			}
		}
		for i, e := range []impl.SessEvent{{Kind: impl.SessLogin, User: "ann", Device: "pc", Id: text}, {Kind: impl.SessUse, Device: "pc", User: text}, {Kind: impl.SessRaise, Device: "pc", User: text}, {Kind: impl.SessLogout, Device: "pc", User: text}, {Kind: impl.SessLogoutAll, User: "ann", Device: text}, {Kind: impl.SessLogoutAll, User: "ann", Id: text}} {
			if got := askSessions(t, plainSessConf(), []impl.SessEvent{e})[0].Err; (got == 1) != (length > 0) {
				t.Errorf("%d bytes in %d: got %d", length, i, got)
			}
		}
	}
}

func TestKindsOfSessEvents(t *testing.T) {
	for _, kind := range append(oddInts(), 0, 1, 2, 3, 4, 5, 6, 7, -5) {
		for _, e := range []impl.SessEvent{{}, {User: "ann"}, {Device: "pc"}, {User: "ann", Device: "pc"}, {Id: "x", Device: "pc"}, {User: "ann", Device: "pc", Id: "x"}} {
			e.Kind = kind
			got := askSessions(t, plainSessConf(), []impl.SessEvent{e})[0].Err
			if kind < 1 || kind > 5 {
				if got != 1 {
					t.Errorf("%d: got %d", kind, got)
				}
			}
		}
	}
}

func TestTimesOfSessEvents(t *testing.T) {
	wantSessions(t, "0 everywhere ann -> ann", "0 login ann pc -> 1 ann 1", "100000000000 login ann pc -> 2 ann 1", "99999999999 login ann pc -> past", "100000000001 login ann pc -> form", "-1 login ann pc -> form", "0 login ann pc -> past", "100000000000 use 2 pc -> 2 ann 1")
	// What had one of the first two Errs gives no time; what had another one does.
	wantSessions(t, "5 everywhere ann -> ann", "100000000001 everywhere ann -> form", "9 login ann.x pc -> form", "4 everywhere ann -> past", "3 everywhere ann -> past", "5 everywhere ann -> ann")
	wantSessions(t, "5 login ann pc -> 1 ann 1", "4 login ann pc -> past", "3 login ann pc -> past", "5 use 1 pc -> 1 ann 1", "4 use 1 pc -> past", "4 use 1 tv -> past", "4 use x pc -> past", "5 use 1 pc -> 1 ann 1")
	for line, err := range map[string]string{"9 use x pc": "unknown", "9 use 1 tv": "stolen", "9 use 2 pc": "dead", "9 raise - pc": "unknown", "9 logout 2 pc": "dead"} {
		wantSessions(t, annIn, "1 login bob pc -> 2 bob 1", "1 logout 2 pc -> 2 bob 1", line+" -> "+err, "8 login cy pc -> past", "9 login cy pc -> 3 cy 1", "8 "+strings.TrimPrefix(line, "9 ")+" -> past")
	}
	wantSessions(t, annIn, "12 use 1 pc -> over", "11 use 1 pc -> past", "12 use 1 pc -> over")
	// Something that had Err 2 is no event ahead, and does nothing.
	wantSessions(t, "9 login ann pc -> 1 ann 1", "8 logout 1 pc -> past", "8 raise 1 pc -> past", "8 use 1 tv -> past", "8 everywhere ann -> past", "7 login ann pc -> past", "9 use 1 pc -> 1 ann 1", "9 raise 1 pc -> 2 ann 2", "8 use 1 pc -> past", "9 use 2 pc -> 2 ann 2")
	// At the last time of all, what is signed in is so beyond it.
	end := []string{"100000000000 login ann pc -> 1 ann 1", "100000000000 raise 1 pc -> 2 ann 2", "100000000000 login bob pc -> 3 bob 1"}
	wantSessions(t, end...)
	for time, want := range map[int][]string{lastTime - 1: nil, lastTime: {"2 ann 2", "3 bob 1"}, lastTime + 1: {"2 ann 2", "3 bob 1"}, lastTime + 10: {"2 ann 2", "3 bob 1"}, lastTime + 11: nil, math.MaxInt: nil} {
		wantSignedIn(t, end, time, want...)
	}
}

func TestEachSessErrAlone(t *testing.T) {
	for kind := 1; kind <= 5; kind++ {
		plain := plainSessCase(kind)
		for i, reply := range askSessions(t, plain.conf, plain.events()) {
			if reply.Err != 0 {
				t.Errorf("%s: event %d has %d", wordsOfSess[kind], i, reply.Err)
			}
		}
		spoils := sessSpoils(kind)
		if len(spoils) != len(errsOfSess[kind]) {
			t.Errorf("%s: there are ways to %d Errs of %d", wordsOfSess[kind], len(spoils), len(errsOfSess[kind]))
		}
		for _, want := range errsOfSess[kind] {
			for i, spoil := range spoils[want] {
				c := plainSessCase(kind)
				spoil(&c)
				replies := askSessions(t, c.conf, c.events())
				if got := replies[len(replies)-1].Err; got != want {
					t.Errorf("%s, way %d to %s: got %s", wordsOfSess[kind], i, wordsOfSessErrs[want], wordsOfSessErrs[got])
				}
			}
		}
	}
}

// errBits are the Errs that hold of an event, each a bit.
func (h sessStory) errBits(e impl.SessEvent) int {
	bits := 0
	for i, tests := 0, h.errs(e); i < len(tests); i += 2 {
		if tests[i+1].(bool) {
			bits |= 1 << (tests[i].(int) - 1)
		}
	}
	return bits
}

// Where several Errs hold the first is told: each way to each Err is put together with those to the others. The last ones are made first, so that what an Err needs of the events ahead is there.
func TestTheFirstSessErrIsTold(t *testing.T) {
	for kind := 1; kind <= 5; kind++ {
		errs, spoils := errsOfSess[kind], sessSpoils(kind)
		for bits := 1; bits < 1<<len(errs); bits++ {
			for turn := range 60 {
				c := plainSessCase(kind)
				want := 0
				for i := len(errs) - 1; i >= 0; i-- {
					if bits>>i&1 == 1 {
						want = errs[i]
						spoils[want][(turn*7+bits+bits/(i+2))%len(spoils[want])](&c)
					}
				}
				replies := askSessions(t, c.conf, c.events())
				if got := replies[len(replies)-1].Err; got != want {
					t.Errorf("%s, Errs %b, turn %d: got %s, want %s", wordsOfSess[kind], bits, turn, wordsOfSessErrs[got], wordsOfSessErrs[want])
				}
				// All of them hold indeed; where there is no such kind, or no such session, the words know nothing of those behind.
				if h, _ := sessionsByWords(c.conf, c.ahead); bits&0b101 == 0 && h.errBits(c.last)&bits != bits {
					t.Errorf("%s, Errs %b, turn %d: just %b hold", wordsOfSess[kind], bits, turn, h.errBits(c.last))
				}
			}
		}
	}
}

func TestSignedIn(t *testing.T) {
	day := sessDayLines()
	all := []string{"5 ann 3", "4 ann 1", "6 cy 1"}
	for _, time := range []int{math.MinInt, -1, 0, 1, 8} {
		wantSignedIn(t, day, time)
	}
	for time, want := range map[int][]string{9: all, 10: all, 16: all, 17: {all[1]}, 19: {all[1]}, 20: nil, 99: nil, lastTime: nil, lastTime + 1: nil, math.MaxInt: nil} {
		wantSignedIn(t, day, time, want...)
	}
	// With fewer events there are others.
	wantSignedIn(t, day[:2], 2, "1 ann 1", "2 bob 1")
	wantSignedIn(t, day[:2], 1)
	wantSignedIn(t, day[:7], 6, "5 ann 3", "2 bob 1", "4 ann 1", "6 cy 1")
	wantSignedIn(t, day[:10], 8, "5 ann 3", "4 ann 1", "6 cy 1", "7 dan 1", "8 dan 1")
	wantSignedIn(t, day[:10], 15, "5 ann 3", "4 ann 1", "6 cy 1", "7 dan 1", "8 dan 1")
	wantSignedIn(t, nil, 0)
	wantSignedIn(t, nil, -1)
	wantSignedIn(t, nil, lastTime)
	// In the order of the logins, not of the uses, the Ids or the names.
	wantSignedIn(t, []string{"1 login zoe pc", "1 login ann pc", "1 login zoe pc", "1 raise 2 pc", "1 raise 1 pc", "1 use 3 pc", "1 use 4 pc"}, 1, "5 zoe 2", "4 ann 2", "3 zoe 1")
	// An event without a now counts for none: the one ahead does. Any other counts, whatever its Err is.
	events := sessEventsOf(day...)
	for _, e := range []impl.SessEvent{{Kind: impl.SessLogoutAll, Time: lastTime + 1, User: "zoe"}, {Kind: 6, Time: 50, User: "zoe"}, {Kind: impl.SessLogoutAll, Time: 50}, {Kind: impl.SessLogoutAll, Time: 8, User: "zoe"}, {Time: -1}} {
		if got := impl.SignedIn(plainSessConf(), append(slices.Clone(events), e), 9); sessRepliesText(got) != strings.Join(all, "; ") {
			t.Errorf("%s: got %s", shown(e), sessRepliesText(got))
		}
		askSessions(t, plainSessConf(), append(slices.Clone(events), e))
	}
	for _, line := range []string{"11 everywhere zoe", "11 use x pc", "11 use 2 tv", "11 use 2 pc", "11 use 7 pc"} {
		wantSignedIn(t, append(slices.Clone(day), line), 10)
		wantSignedIn(t, append(slices.Clone(day), line), 11, all...)
	}
	// One that is over by what it says itself is still told at no time behind.
	wantSignedIn(t, append(slices.Clone(day), "17 use 5 pc"), 17, all[1])
}

// drawnSessStories are behind many drawn events, some of which are as many as may be.
func drawnSessStories(many int) []sessStory {
	from := drawn()
	var all []sessStory
	for i := range many {
		length := 5 + from.Intn(40)
		if i%60 == 0 {
			length = 200
		}
		all = append(all, drawnSessStory(from, drawnSessConf(from), length))
	}
	return all
}

// All that may come of each kind of event comes of some.
func TestDrawnSessStories(t *testing.T) {
	counts := map[int]map[int]int{}
	for _, h := range drawnSessStories(1000) {
		askReplied(t, h)
		if len(h.done) < 60 {
			askSignedIn(t, h, h.timesOf()...)
		} else {
			askSignedIn(t, h, h.now()-1, h.now(), h.now()+1, h.now()+h.conf.Idle)
		}
		for _, x := range h.done {
			if counts[x.event.Kind] == nil {
				counts[x.event.Kind] = map[int]int{}
			}
			counts[x.event.Kind][x.reply.Err]++
		}
	}
	for kind, errs := range errsOfSess {
		for _, err := range append(errs, 0) {
			if counts[kind][err] < 5 {
				t.Errorf("%s comes to %s only %d times", wordsOfSess[kind], wordsOfSessErrs[err], counts[kind][err])
			}
		}
		if len(counts[kind]) != len(errs)+1 {
			t.Errorf("%s comes to %v", wordsOfSess[kind], counts[kind])
		}
	}
}

// endsJust says of a story and an event behind it that the event has that Err, or none, and that of those who were signed in just those of the logins are so no more, at once and later.
func endsJust(t *testing.T, h sessStory, e impl.SessEvent, err int, ends func(login int) bool) int {
	t.Helper()
	events := append(h.events(), e)
	if got := impl.RunSessions(h.conf, events); got[len(got)-1].Err != err {
		t.Errorf("%s behind %.900s: got %d, want %d", shown(e), shown(h.events()), got[len(got)-1].Err, err)
	}
	ended := 0
	for _, time := range []int{e.Time, e.Time + 1, e.Time + h.conf.Idle} {
		var want []impl.SessReply
		for _, reply := range impl.SignedIn(h.conf, h.events(), time) {
			if ends(h.loginOf(reply.Id)) {
				ended++
			} else {
				want = append(want, reply)
			}
		}
		if got := impl.SignedIn(h.conf, events, time); !slices.Equal(got, want) {
			t.Errorf("%s behind %.900s: at %d got %s, want %s", shown(e), shown(h.events()), time, sessRepliesText(got), sessRepliesText(want))
		}
	}
	return ended
}

// staysDead says that a session never answers again behind the events: its right Id is dead on its device, the old ones are what they were.
func staysDead(t *testing.T, h sessStory, events []impl.SessEvent, login int) {
	t.Helper()
	for _, later := range []int{0, 1, 1000} {
		for i, id := range h.ids(login) {
			want := 4
			if i == len(h.ids(login))-1 {
				want = 5
			}
			for _, kind := range kindsWithIds() {
				again := impl.SessEvent{Kind: kind, Time: min(events[len(events)-1].Time+later, lastTime), Id: id, Device: h.done[login].event.Device}
				replies := impl.RunSessions(h.conf, append(slices.Clip(events), again))
				if got := replies[len(events)].Err; got != want {
					t.Errorf("%s: got %d, want %d", shown(again), got, want)
				}
			}
		}
	}
}

// Promise 19: an Id that was replaced, or is used on another device, ends its session, and no other one.
func TestReplacedIdsAndOtherDevicesEndTheSession(t *testing.T) {
	old, other := 0, 0
	for i, h := range drawnSessStories(240) {
		if len(h.done) > 60 {
			continue
		}
		for _, login := range h.logins() {
			ids, device := h.ids(login), h.done[login].event.Device
			for j, id := range ids {
				isLast := j == len(ids)-1
				for k, on := range []string{device, "watch"} {
					if isLast && on == device {
						continue
					}
					e := impl.SessEvent{Kind: kindsWithIds()[(i+j+k)%3], Time: h.now() + i%3, Id: id, Device: on}
					ended := endsJust(t, h, e, 4, func(own int) bool { return own == login })
					if ended > 0 && !isLast {
						old++
					}
					if ended > 0 && isLast {
						other++
					}
					staysDead(t, h, append(h.events(), e), login)
				}
			}
		}
	}
	if old < 200 || other < 300 {
		t.Errorf("too few ended: %d by an old Id, %d by another device", old, other)
	}
}

// Promise 19: signing out everywhere leaves none of that user's, and all of the others'.
func TestSigningOutEverywhereLeavesNone(t *testing.T) {
	ended := 0
	for i, h := range drawnSessStories(300) {
		if len(h.done) > 60 {
			continue
		}
		for _, user := range append(drawnUsers, "nobody") {
			e := impl.SessEvent{Kind: impl.SessLogoutAll, Time: h.now() + i%3, User: user}
			ended += endsJust(t, h, e, 0, func(own int) bool { return h.done[own].event.User == user })
			events := append(h.events(), e)
			for _, login := range h.logins() {
				if h.done[login].event.User == user {
					staysDead(t, h, events, login)
				}
			}
			for _, reply := range impl.SignedIn(h.conf, events, e.Time) {
				if reply.User == user {
					t.Errorf("%s is still signed in", user)
				}
			}
			// Who signs in behind it is signed in.
			again := append(slices.Clip(events), impl.SessEvent{Kind: impl.SessLogin, Time: e.Time, User: user, Device: "pc"})
			if got := impl.SignedIn(h.conf, again, e.Time); len(got) == 0 || got[len(got)-1] != (impl.SessReply{Id: h.newId(), User: user, Level: 1}) {
				t.Errorf("%s signed in again: got %s", user, shown(got))
			}
		}
	}
	if ended < 1000 {
		t.Errorf("only %d were ended", ended)
	}
}

// Who is not signed in any more never is again, and the replies to a beginning of a story stand whatever comes behind it.
func TestBeginningsOfSessStories(t *testing.T) {
	for _, h := range drawnSessStories(120) {
		events := h.events()
		all := impl.RunSessions(h.conf, events)
		over := map[int]bool{}
		var known []int
		for end := range len(events) + 1 {
			if got := impl.RunSessions(h.conf, events[:end]); !slices.Equal(got, all[:end]) {
				t.Errorf("the first %d replies are others", end)
			}
			var signedIn []int
			for _, reply := range impl.SignedIn(h.conf, events[:end], sessStory{h.conf, h.done[:end]}.now()) {
				login := h.loginOf(reply.Id)
				signedIn = append(signedIn, login)
				if over[login] {
					t.Errorf("%s is signed in again", reply.User)
				}
			}
			if !slices.IsSorted(signedIn) {
				t.Errorf("not in the order of the logins: %v", signedIn)
			}
			for _, login := range known {
				if !slices.Contains(signedIn, login) {
					over[login] = true
				}
			}
			known = append(known, signedIn...)
		}
	}
}

// Each of those who are signed in may use what is told of them at that time, and no other Id is taken then.
func TestJustThoseWhoAreSignedInAreTaken(t *testing.T) {
	taken, refused := 0, 0
	for _, h := range drawnSessStories(300) {
		if len(h.done) > 60 {
			continue
		}
		events := h.events()
		for _, later := range []int{0, 1, 3} {
			time := h.now() + later
			signedIn := impl.SignedIn(h.conf, events, time)
			for _, login := range h.logins() {
				for _, id := range h.ids(login) {
					use := impl.SessEvent{Kind: impl.SessUse, Time: time, Id: id, Device: h.done[login].event.Device}
					reply := impl.RunSessions(h.conf, append(slices.Clip(events), use))[len(events)]
					at := slices.IndexFunc(signedIn, func(r impl.SessReply) bool { return r.Id == id })
					switch {
					case at < 0:
						refused++
						if reply.Err == 0 {
							t.Errorf("%s is taken, and nobody is signed in by it", id)
						}
					default:
						taken++
						if reply != signedIn[at] {
							t.Errorf("%s: got %s, want %s", id, shown(reply), shown(signedIn[at]))
						}
					}
				}
			}
		}
	}
	if taken < 500 || refused < 500 {
		t.Errorf("%d were taken, %d were refused", taken, refused)
	}
}

// An event with an Err, but for the fourth, is as good as one that only tells the time, or as none where it tells no time.
func TestSessErrsChangeNothingButWhatIsTold(t *testing.T) {
	replaced := 0
	for _, h := range drawnSessStories(400) {
		var done []doneSess
		for _, x := range h.done {
			switch x.reply.Err {
			case 1, 2:
				continue
			case 3, 5, 6:
				replaced++
				x = doneSess{impl.SessEvent{Kind: impl.SessLogoutAll, Time: x.event.Time, User: "zoe"}, impl.SessReply{User: "zoe"}}
			}
			done = append(done, x)
		}
		plain := sessStory{h.conf, done}
		if got := impl.RunSessions(h.conf, plain.events()); !slices.Equal(got, plain.replies()) {
			t.Errorf("without Errs: got %.300s, want %.300s", shown(got), shown(plain.replies()))
		}
		for _, time := range h.timesOf() {
			if got, want := impl.SignedIn(h.conf, plain.events(), time), impl.SignedIn(h.conf, h.events(), time); !slices.Equal(got, want) {
				t.Errorf("without Errs at %d: got %.300s, want %.300s", time, shown(got), shown(want))
			}
		}
	}
	if replaced < 500 {
		t.Errorf("only %d were replaced", replaced)
	}
}

// Whoever else is there, a session comes to the same: the others' events may be left out, but for the numbers of its Ids.
func TestSessionsOfOthersCountForNothing(t *testing.T) {
	compared := 0
	for _, h := range drawnSessStories(400) {
		for _, user := range drawnUsers {
			own := sessStory{conf: h.conf}
			ids := map[string]string{}
			for _, x := range h.done {
				if x.reply.Err == 1 || x.reply.Err == 2 {
					continue
				}
				e := x.event
				login := h.loginOf(e.Id)
				isOwn := e.User == user || login >= 0 && h.done[login].event.User == user && x.reply.Err != 3
				if !isOwn {
					continue
				}
				if e.Id != "" {
					e.Id = ids[e.Id]
				}
				own = own.and(e)
				reply := own.done[len(own.done)-1].reply
				if reply.Id != "" {
					ids[x.reply.Id] = reply.Id
				}
				compared++
				if want := x.reply; reply.Err != want.Err || reply.User != want.User || reply.Level != want.Level || reply.Id != ids[want.Id] {
					t.Errorf("%s alone: got %s, want %s", user, shown(reply), shown(want))
				}
			}
			askStory(t, own)
		}
	}
	if compared < 3000 {
		t.Errorf("only %d were compared", compared)
	}
}

// sessStoriesOf asks all stories that begin so, and go on with so many of the steps, each of them so much later than the one ahead.
func sessStoriesOf(t *testing.T, begin []string, steps []string, many int) {
	t.Helper()
	choices := sessEventsOf(steps...)
	var goOn func(left int, h sessStory)
	goOn = func(left int, h sessStory) {
		if left == 0 {
			askReplied(t, h)
			askSignedIn(t, h, h.now(), h.now()+5, h.now()+10)
			return
		}
		for _, e := range choices {
			e.Time += h.now()
			goOn(left-1, h.and(e))
		}
	}
	h, _ := sessionsByWords(plainSessConf(), sessEventsOf(begin...))
	goOn(many, h)
}

// All stories of some steps, with one session, and with two.
func TestAllShortSessStories(t *testing.T) {
	sessStoriesOf(t, []string{annIn}, []string{
		"0 use 1 pc", "6 use 1 pc", "0 use 2 pc", "10 use 2 pc", "0 use 1 tv", "0 raise 1 pc", "5 raise 2 pc", "0 logout 2 pc", "1 everywhere ann",
	}, 5)
	sessStoriesOf(t, []string{annIn, "1 login bob tv"}, []string{
		"0 login ann tv", "5 use 1 pc", "6 use 2 tv", "0 raise 1 pc", "0 logout 3 tv", "0 use 3 pc", "0 everywhere ann", "0 everywhere bob",
	}, 5)
}
