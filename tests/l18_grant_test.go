package tests

import (
	"math"
	"slices"
	"strconv"
	"strings"
	"testing"

	"loop.example/g00036/impl"
)

func TestGrantConstants(t *testing.T) {
	got := []int{
		impl.MaxAsks, impl.MaxClients, impl.GrantCode, impl.GrantRefresh, impl.GrantDevice, impl.GrantExchange,
		impl.AskAuthorize, impl.AskRedeem, impl.AskRefresh, impl.AskDevice, impl.AskApprove, impl.AskPoll, impl.AskExchange, impl.AskIntrospect, impl.AskRevoke,
		impl.ErrClient, impl.ErrRedirect, impl.ErrKind, impl.ErrScope, impl.ErrChallenge, impl.ErrUser, impl.ErrSecret, impl.ErrCode, impl.ErrUsed, impl.ErrExpired, impl.ErrOther, impl.ErrVerifier, impl.ErrToken, impl.ErrReuse,
		impl.ErrSlow, impl.ErrWait, impl.ErrDenied, impl.ErrTime, impl.ErrForm,
	}
	want := []int{100, 20, 1, 2, 3, 4, 1, 2, 3, 4, 5, 6, 7, 8, 9, 1, 2, 3, 4, 5, 6, 7, 8, 9, 10, 11, 12, 13, 14, 16, 17, 18, 19, 20}
	if !slices.Equal(got, want) {
		t.Errorf("got %v, want %v", got, want)
	}
}

func askGoodServer(t *testing.T, s impl.Server) bool {
	t.Helper()
	got := impl.GoodServer(s)
	if got != goodServerByWords(s) {
		t.Errorf("GoodServer(%.400s): got %v", shown(s), got)
	}
	return got
}

func TestGoodServer(t *testing.T) {
	for _, s := range goodServers() {
		if !askGoodServer(t, s) {
			t.Errorf("%.400s: want it good", shown(s))
		}
	}
	for _, s := range badServers() {
		if askGoodServer(t, s) {
			t.Errorf("%.400s: want it not good", shown(s))
		}
		// Nothing is answered then, not even to asks that are not in form.
		for _, asks := range [][]impl.GrantAsk{nil, story(), make([]impl.GrantAsk, 3)} {
			if replies := impl.RunServer(s, asks); replies != nil {
				t.Errorf("%.400s: got %.200s", shown(s), shown(replies))
			}
			if live := impl.LiveTokens(s, asks, 9); live != nil {
				t.Errorf("%.400s: got %.200s", shown(s), shown(live))
			}
		}
	}
}

func TestGoodServerOfNumbers(t *testing.T) {
	for many := range 70 {
		for what, told := range map[string]struct {
			server impl.Server
			want   bool
		}{
			"clients":   {serverOf(countedClients(many)...), many <= 20},
			"secret":    {shopWith(func(c *impl.Client) { c.Secret = make([]byte, many) }), many == 0 || many == 16},
			"redirects": {shopWith(func(c *impl.Client) { c.Redirects = countedTexts(many) }), many <= 5},
			"scopes":    {shopWith(func(c *impl.Client) { c.Scopes = countedNames(many) }), many <= 20},
			"kinds":     {shopWith(func(c *impl.Client) { c.Kinds = slices.Repeat([]int{3}, many) }), many <= 4},
			"kind":      {shopWith(func(c *impl.Client) { c.Kinds = []int{1, many} }), 1 <= many && many <= 4},
			"key":       {impl.Server{Key: make([]byte, many), Short: 1, Long: 1}, many <= 64},
			"id":        {serverOf(impl.Client{Id: strings.Repeat("c", many)}), 1 <= many && many <= 40},
		} {
			if askGoodServer(t, told.server) != told.want {
				t.Errorf("%s of %d: want %v", what, many, told.want)
			}
		}
	}
	for _, life := range []int{math.MinInt, -1, 0, 1, 2, 999999, 1000000, 1000001, 1000002, lastTime, math.MaxInt} {
		want := 1 <= life && life <= 1000000
		if askGoodServer(t, impl.Server{Short: life, Long: 1}) != want || askGoodServer(t, impl.Server{Short: 1, Long: life}) != want || askGoodServer(t, impl.Server{Short: life, Long: life}) != want {
			t.Errorf("%d: want %v", life, want)
		}
	}
	for length := range 210 {
		if askGoodServer(t, shopWith(func(c *impl.Client) { c.Redirects = []string{strings.Repeat("r", length)} })) != (1 <= length && length <= 200) {
			t.Errorf("a redirect of %d bytes", length)
		}
	}
}

func TestGoodServerOfBytes(t *testing.T) {
	for x := range 256 {
		single := string([]byte{byte(x)})
		for _, text := range []string{single, "a" + single, single + "a", "a" + single + "b"} {
			if askGoodServer(t, shopWith(func(c *impl.Client) { c.Redirects = []string{"x", text} })) != (32 <= x && x <= 126) {
				t.Errorf("the redirect %q", text)
			}
			askGoodServer(t, serverOf(impl.Client{Id: text}))
			askGoodServer(t, shopWith(func(c *impl.Client) { c.Scopes = []string{text} }))
		}
	}
	ids := []string{"-", "-a", ".", "0", "00", "1", "10", "2", "A", "AA", "Z", "_", "a", "a-", "a.", "a0", "aA", "aa", "b"}
	for i, id := range ids {
		for j, other := range ids {
			if askGoodServer(t, serverOf(impl.Client{Id: id}, impl.Client{Id: other})) != (i < j) {
				t.Errorf("%q ahead of %q", id, other)
			}
		}
	}
}

func askChallenge(t *testing.T, verifier string) string {
	t.Helper()
	got := impl.ChallengeOf(verifier)
	if want := challengeByWords(verifier); got != want {
		t.Errorf("ChallengeOf(%.80q): got %q, want %q", verifier, got, want)
	}
	return got
}

// The challenges were worked out outside of Go.
func TestChallengeOf(t *testing.T) {
	for verifier, want := range map[string]string{
		"": "5aaii0j662uinrncasanpfjdb4", "v": "4tedu5o1sugjtmvet8478l6j48", "correct horse": "a2ros4ffa4bll56dh14dmiibdc", strings.Repeat("\xff", 200): "7ede202j411kmiustku8tc4bf0",
	} {
		if got := askChallenge(t, verifier); got != want {
			t.Errorf("%.80q: got %q, want %q", verifier, got, want)
		}
	}
	for length := range 400 {
		if got := askChallenge(t, strings.Repeat("v", length)); (got != "") != (length <= 200) {
			t.Errorf("%d bytes: got %q", length, got)
		}
	}
	for _, text := range oddTexts() {
		askChallenge(t, text)
	}
}

func askHandle(t *testing.T, key []byte, kind string, number int) string {
	t.Helper()
	got := impl.HandleOf(key, kind, number)
	if want := handleByWords(key, kind, number); got != want {
		t.Errorf("HandleOf(%.80q, %.80q, %d): got %q, want %q", key, kind, number, got, want)
	}
	return got
}

// The handles were worked out outside of Go.
func TestHandleOf(t *testing.T) {
	for _, told := range []struct {
		key    string
		kind   string
		number int
		want   string
	}{
		{"k", "code", 1, "code1-3u5i02el4pr0eg1v"}, {"k", "access", 2, "access2-kcu6qs5v23llc35b"}, {"", "sess", 1, "sess1-odbfqu0fn7l3esa6"},
		{"k", "refresh", 1000000, "refresh1000000-bh3suggbtdb2k8mf"}, {strings.Repeat("\x00", 64), "_", 42, "_42-j000gu6drbr5uccb"}, {"key", longName("A"), 10, longName("A") + "10-j6qbu903cm51t8gr"},
	} {
		if got := askHandle(t, []byte(told.key), told.kind, told.number); got != told.want {
			t.Errorf("%q, %q, %d: got %q, want %q", told.key, told.kind, told.number, got, told.want)
		}
	}
	for length := range 70 {
		if got := askHandle(t, make([]byte, length), "code", 1); (got != "") != (length <= 64) {
			t.Errorf("a key of %d bytes: got %q", length, got)
		}
		if got := askHandle(t, nil, strings.Repeat("k", length), 1); (got != "") != (1 <= length && length <= 30) {
			t.Errorf("a kind of %d bytes: got %q", length, got)
		}
	}
	for _, number := range append(oddInts(), 9, 10, 99, 100, 999999, 1000000, 1000001) {
		if got := askHandle(t, []byte("k"), "code", number); (got != "") != (1 <= number && number <= 1000000) {
			t.Errorf("%d: got %q", number, got)
		}
	}
	for _, kind := range badWords() {
		if got := askHandle(t, []byte("k"), kind, 1); got != "" {
			t.Errorf("%.80q: got %q", kind, got)
		}
	}
	for _, kind := range []string{"a", "Z", "_", "a1", "x_9", "access", "USER"} {
		if got := askHandle(t, []byte("k"), kind, 7); !strings.HasPrefix(got, kind+"7-") || len(got) != len(kind)+2+16 {
			t.Errorf("%q: got %q", kind, got)
		}
	}
}

// No two handles are alike whose kinds end in no digit, as those of the server do; where one does, it may stand for a digit of the number.
func TestHandlesAreUnlike(t *testing.T) {
	seen := map[string]string{}
	for _, kind := range append(handleSorts, "sess", "code_") {
		for number := 1; number <= 400; number++ {
			what := kind + " " + strconv.Itoa(number)
			handle := askHandle(t, []byte("k"), kind, number)
			if seen[handle] != "" {
				t.Errorf("%s and %s: both %q", what, seen[handle], handle)
			}
			seen[handle] = what
			if other := impl.HandleOf([]byte("l"), kind, number); other == handle {
				t.Errorf("%s: the same with another key", what)
			}
		}
	}
	if one, other := askHandle(t, []byte("k"), "code1", 2), askHandle(t, []byte("k"), "code", 12); one != other {
		t.Errorf("got %q and %q", one, other)
	}
}

// askLive holds the live tokens at a time against the words.
func askLive(t *testing.T, s impl.Server, asks []impl.GrantAsk, time int) []impl.LiveToken {
	t.Helper()
	got := impl.LiveTokens(s, asks, time)
	if want := liveByWords(s, asks, time); !sameLive(got, want) {
		t.Errorf("LiveTokens(%.200s, %.600s, %d): got %.400s, want %.400s", shown(s), shown(asks), time, shown(got), shown(want))
	}
	return got
}

// askRun holds the replies against the words, and what is live at all times that count.
func askRun(t *testing.T, s impl.Server, asks []impl.GrantAsk) []impl.GrantReply {
	t.Helper()
	got := impl.RunServer(s, asks)
	h, ok := servedByWords(s, asks)
	if !ok {
		if got != nil {
			t.Errorf("RunServer(%.300s, %d asks): got %.200s", shown(s), len(asks), shown(got))
		}
		askLive(t, s, asks, lastTime)
		return nil
	}
	askReplies(t, h, got)
	now := h.now()
	for _, time := range []int{math.MinInt, -1, now - 1, now, now + 1, now + s.Short, now + s.Short + 1, now + s.Short/2, lastTime, math.MaxInt} {
		got, want := impl.LiveTokens(s, asks, time), h.live(time)
		if time < now {
			want = nil
		}
		if !sameLive(got, want) {
			t.Errorf("LiveTokens at %d behind %.600s: got %.400s, want %.400s", time, shown(asks), shown(got), shown(want))
		}
	}
	return got
}

func askReplies(t *testing.T, h servedAsks, got []impl.GrantReply) {
	t.Helper()
	want := h.replies()
	if len(got) != len(want) {
		t.Fatalf("got %d replies to %d asks", len(got), len(want))
	}
	for i, reply := range got {
		if !sameReply(reply, want[i]) {
			t.Errorf("ask %d of %.900s: got %s, want %s", i, shown(h.asks()), replyText(reply), replyText(want[i]))
		}
		if reply.Err != 0 && !sameReply(reply, impl.GrantReply{Err: reply.Err}) {
			t.Errorf("ask %d: an Err, and %s", i, replyText(reply))
		}
	}
}

// wantRun asks the shop what is told in the lines, each with its reply behind it.
func wantRun(t *testing.T, lines ...string) {
	t.Helper()
	replies := askRun(t, shop(), grantAsksOf(lines...))
	for i, line := range lines {
		_, want, ok := strings.Cut(line, " -> ")
		if got := replyText(replies[i]); got != want || !ok {
			t.Errorf("%d: %s: got %s", i, line, got)
		}
	}
}

func wantLive(t *testing.T, asks []impl.GrantAsk, time int, want ...string) {
	t.Helper()
	if got := liveText(askLive(t, shop(), asks, time)); got != strings.Join(want, "; ") {
		t.Errorf("at %d: got %s, want %s", time, got, strings.Join(want, "; "))
	}
}

// The lines with which many stories begin: ann lets app read and write.
const (
	annCode   = "1 authorize client=app redirect=app:cb challenge=v user=ann scopes=read,write -> code1"
	annTokens = "2 redeem client=app redirect=app:cb code=code1 verifier=v -> access2 refresh3 ann read,write"
)

func TestRunServerOfNoAsk(t *testing.T) {
	for _, s := range goodServers() {
		for _, asks := range [][]impl.GrantAsk{nil, {}} {
			if replies := askRun(t, s, asks); replies != nil {
				t.Errorf("got %s", shown(replies))
			}
		}
		askRun(t, s, story())
	}
}

func TestRunServerOfManyAsks(t *testing.T) {
	for _, many := range []int{1, 2, 99, 100, 101, 102, 5000} {
		for _, a := range []impl.GrantAsk{grantAskOf(strings.Split(annCode, " -> ")[0]), {}, grantAskOf("0 introspect"), grantAskOf("3 device client=fox scopes=read")} {
			asks := slices.Repeat([]impl.GrantAsk{a}, many)
			if got := len(askRun(t, shop(), asks)); many <= 100 && got != many || many > 100 && got != 0 {
				t.Errorf("%d asks: got %d replies", many, got)
			}
		}
	}
	// The last of as many asks as there may be counts.
	asks := append(slices.Repeat([]impl.GrantAsk{grantAskOf("0 introspect")}, 98), grantAsksOf(annCode, annTokens)...)
	wantLive(t, asks, 5, "access2 ann @app read,write till 12")
	wantLive(t, append(asks, grantAskOf("2 introspect")), 5)
}

func TestCodes(t *testing.T) {
	wantRun(t, annCode, annTokens,
		"2 introspect code=access2 -> active ann @app read,write",
		"3 redeem client=app redirect=app:cb code=code1 verifier=v -> used",
		"3 introspect code=access2 -> done",
		"3 refresh client=app code=refresh3 -> reuse",
		"3 redeem client=app redirect=app:cb code=code1 verifier=v -> used",
	)
	// A client without GrantRefresh has no refresh, and the next number is the next one's.
	wantRun(t,
		"0 authorize client=once redirect=once:cb challenge=v user=bob scopes=write -> code1",
		"0 redeem client=once secret=o! redirect=once:cb code=code1 verifier=v -> access2 bob write",
		"0 authorize client=weak redirect=weak:cb challenge=w user=bob scopes=read -> code3",
		"0 redeem client=weak redirect=weak:cb code=code3 verifier=w -> access4 refresh5 bob read",
	)
	// Each code has its own challenge, redirect, user and scopes; none is the other's.
	wantRun(t,
		"0 authorize client=app redirect=app:cb challenge=v user=ann scopes=read -> code1",
		"0 authorize client=app redirect=app:two challenge=w user=bob scopes=send,write -> code2",
		"0 redeem client=app redirect=app:two code=code2 verifier=w -> access3 refresh4 bob send,write",
		"0 redeem client=app redirect=app:cb code=code1 verifier=v -> access5 refresh6 ann read",
		"0 introspect code=access3 -> active bob @app send,write",
	)
	// The empty text has a challenge like any other; what is told as a challenge need not be one.
	wantRun(t,
		"0 authorize client=app redirect=app:cb challenge= user=ann scopes=read -> code1",
		"0 redeem client=app redirect=app:cb code=code1 -> access2 refresh3 ann read",
	)
	never := grantAskOf(strings.Split(annCode, " -> ")[0])
	never.Challenge = "v"
	for _, verifier := range []string{"", "v", challengeByWords("v")} {
		if replies := askRun(t, shop(), append([]impl.GrantAsk{never}, grantAskOf("1 redeem client=app redirect=app:cb code=code1 verifier="+verifier))); replies[1].Err != impl.ErrVerifier {
			t.Errorf("%q: got %s", verifier, replyText(replies[1]))
		}
	}
}

// Whatever comes of the first use, the second one finds the code used, and ends the grant.
func TestACodeIsUsedEvenThoughItFails(t *testing.T) {
	for time, want := range map[string]string{"10": "access2 refresh3 ann read,write", "11": "access2 refresh3 ann read,write", "12": "expired", "13": "expired"} {
		wantRun(t, annCode, time+" redeem client=app redirect=app:cb code=code1 verifier=v -> "+want, time+" redeem client=app redirect=app:cb code=code1 verifier=v -> used")
	}
	for first, err := range map[string]string{
		"12 redeem client=app redirect=app:cb code=code1 verifier=v":  "expired",
		"11 redeem client=app redirect=app:two code=code1 verifier=v": "other",
		"11 redeem client=app code=code1 verifier=v":                  "other",
		"11 redeem client=app redirect=app:cb code=code1 verifier=w":  "verifier",
		"11 redeem client=app redirect=app:cb code=code1":             "verifier",
		"12 redeem client=app redirect=app:two code=code1 verifier=w": "expired",
		"11 redeem client=app redirect=app:two code=code1 verifier=w": "other",
	} {
		for _, second := range []string{"redeem client=app redirect=app:cb code=code1 verifier=v", "redeem client=app redirect=app:two code=code1 verifier=w"} {
			wantRun(t, annCode, first+" -> "+err, "12 "+second+" -> used", "50 "+second+" -> used", "50 authorize client=app redirect=app:cb challenge=v user=ann scopes=read -> code2")
		}
	}
	// What fails ahead of that leaves the code as it was.
	for line, err := range map[string]string{
		"2 redeem client=fox redirect=app:cb code=code1 verifier=v":          "code",
		"2 redeem client=nobody redirect=app:cb code=code1 verifier=v":       "client",
		"2 redeem client=app secret=x redirect=app:cb code=code1 verifier=v": "secret",
		"0 redeem client=app redirect=app:cb code=code1 verifier=v":          "time",
		"2 redeem client=app redirect=app:cb code=code1 scopes=b,a":          "form",
		"2 poll client=app code=code1":                                       "code",
		"2 refresh client=app code=code1":                                    "token",
		"2 approve user=ann code=code1":                                      "code",
		"2 exchange client=fox code=code1 scopes=read":                       "token",
		"2 introspect code=code1":                                            "done",
		"2 revoke client=app code=code1":                                     "done",
	} {
		wantRun(t, annCode, line+" -> "+err, annTokens, "2 introspect code=access2 -> active ann @app read,write")
	}
}

// What verifiers with the same digest have is one challenge.
func TestVerifiersThatClash(t *testing.T) {
	one, other := clashingTexts()
	wantRun(t,
		"1 authorize client=app redirect=app:cb challenge="+one+" user=ann scopes=read -> code1",
		"1 redeem client=app redirect=app:cb code=code1 verifier="+other+" -> access2 refresh3 ann read",
	)
	s := shopWith(func(c *impl.Client) { c.Secret = impl.Digest([]byte(one)) })
	asks := grantAsksOf("1 revoke client=app secret="+one, "1 revoke client=app secret="+other, "1 revoke client=app secret="+one+"x")
	for i, want := range []int{0, 0, impl.ErrSecret} {
		if got := askRun(t, s, asks)[i].Err; got != want {
			t.Errorf("%d: got %d, want %d", i, got, want)
		}
	}
}

// All that came of a grant ends with it: accesses, refreshes, and those by exchange, of whatever client.
func TestWhatEndsWithAGrant(t *testing.T) {
	ahead := []string{
		annCode, annTokens,
		"2 exchange client=svc secret=s code=access2 scopes=read audience=db -> access4 ann read",
		"2 exchange client=fox code=access4 scopes=read audience=log -> access5 ann read",
		"3 refresh client=app code=refresh3 scopes=write -> access6 refresh7 ann write",
		"3 authorize client=app redirect=app:cb challenge=v user=ann scopes=read -> code8",
		"3 redeem client=app redirect=app:cb code=code8 verifier=v -> access9 refresh10 ann read",
		"3 exchange client=once secret=o! code=access9 scopes=read -> access11 ann read",
	}
	wantLive(t, grantAsksOf(ahead...), 3, "access2 ann @app read,write till 12", "access4 ann @svc read till 12 (db)", "access5 ann @fox read till 12 (log)", "access6 ann @app write till 13", "access9 ann @app read till 13", "access11 ann @once read till 13")
	for line, want := range map[string]string{
		"4 redeem client=app redirect=app:cb code=code1 verifier=v":  "used",
		"4 redeem client=app redirect=app:two code=code1 verifier=w": "used",
		"4 redeem client=app code=code1":                             "used",
		"4 refresh client=app code=refresh3 scopes=write":            "reuse",
		"4 refresh client=app code=refresh3 scopes=admin":            "reuse",
		"4 revoke client=app code=refresh3":                          "done",
		"4 revoke client=app code=refresh7":                          "done",
	} {
		story := append(slices.Clone(ahead), line+" -> "+want)
		wantLive(t, grantAsksOf(story...), 4, "access9 ann @app read till 13", "access11 ann @once read till 13")
		wantRun(t, append(story,
			"4 introspect code=access2 -> done", "4 introspect code=access4 -> done", "4 introspect code=access5 -> done", "4 introspect code=access6 -> done",
			"4 introspect code=access9 -> active ann @app read", "4 introspect code=access11 -> active ann @once read",
			"4 exchange client=svc secret=s code=access2 scopes=read -> token", "4 exchange client=svc secret=s code=access6 scopes=write -> token",
			"4 refresh client=app code=refresh7 -> reuse", "4 refresh client=app code=refresh7 scopes=admin -> reuse", "99 refresh client=app code=refresh7 -> reuse",
			"99 redeem client=app redirect=app:cb code=code1 verifier=v -> used",
		)...)
	}
	// What another client does with the same handles ends nothing.
	for line, want := range map[string]string{
		"4 redeem client=fox redirect=app:cb code=code1 verifier=v": "code",
		"4 refresh client=fox code=refresh3":                        "token",
		"4 revoke client=fox code=refresh3":                         "done",
		"4 revoke client=svc secret=s code=access2":                 "done",
		"4 revoke client=app secret=x code=refresh3":                "secret",
		"4 revoke client=app code=code1":                            "done",
	} {
		wantRun(t, append(slices.Clone(ahead), line+" -> "+want, "4 introspect code=access2 -> active ann @app read,write", "4 introspect code=access4 -> active ann @svc read", "4 refresh client=app code=refresh7 -> access12 refresh13 ann read,write")...)
	}
}

func TestRefreshes(t *testing.T) {
	for line, want := range map[string]string{
		"5 refresh client=app code=refresh3":                         "access4 refresh5 ann read,write",
		"5 refresh client=app code=refresh3 scopes=read,write":       "access4 refresh5 ann read,write",
		"5 refresh client=app code=refresh3 scopes=read":             "access4 refresh5 ann read",
		"5 refresh client=app code=refresh3 scopes=read,send,write":  "scope",
		"5 refresh client=app code=refresh3 scopes=send":             "scope",
		"5 refresh client=app code=refresh3 scopes=admin,read":       "scope",
		"52 refresh client=app code=refresh3":                        "access4 refresh5 ann read,write",
		"53 refresh client=app code=refresh3":                        "expired",
		"53 refresh client=app code=refresh3 scopes=send":            "expired",
		"5 refresh client=fox code=refresh3":                         "token",
		"5 refresh client=app code=access2":                          "token",
		"5 refresh client=app code=code1":                            "token",
		"5 refresh client=app":                                       "token",
		"5 refresh client=app secret=x code=refresh3":                "secret",
		"5 refresh client=app code=refresh3 audience=db user=bob":    "access4 refresh5 ann read,write",
		"5 refresh client=once secret=o! code=refresh3":              "token",
		"5 refresh client=idle code=refresh3":                        "token",
		"99999999999 refresh client=app code=refresh3":               "expired",
		"100000000000 refresh client=app code=refresh3 scopes=write": "expired",
	} {
		wantRun(t, annCode, annTokens, line+" -> "+want)
	}
	// A refresh hands on all its scopes, though fewer were asked for; its time begins anew.
	wantRun(t, annCode, annTokens,
		"52 refresh client=app code=refresh3 scopes=read -> access4 refresh5 ann read",
		"102 refresh client=app code=refresh5 scopes=write -> access6 refresh7 ann write",
		"102 introspect code=access4 -> done",
		"103 refresh client=app code=refresh7 -> access8 refresh9 ann read,write",
		"104 introspect code=access6 -> active ann @app write",
		"104 refresh client=app code=refresh9 scopes=send -> scope",
		"154 refresh client=app code=refresh9 -> expired",
		"154 refresh client=app code=refresh5 -> reuse",
		"154 refresh client=app code=refresh9 -> reuse",
	)
	// What failed did not use it.
	wantRun(t, annCode, annTokens,
		"3 refresh client=app code=refresh3 scopes=send -> scope",
		"3 refresh client=app secret=x code=refresh3 -> secret",
		"3 refresh client=fox code=refresh3 -> token",
		"3 refresh client=app code=refresh3 -> access4 refresh5 ann read,write",
		"3 refresh client=app code=refresh3 scopes=send -> reuse",
		"3 refresh client=app code=refresh5 -> reuse",
	)
	// A refresh is used again behind its time, too: that ends its grant, while an expired one that was not used ends nothing.
	wantRun(t, annCode, annTokens,
		"50 refresh client=app code=refresh3 -> access4 refresh5 ann read,write",
		"53 refresh client=app code=refresh3 -> reuse",
		"53 introspect code=access4 -> done",
	)
	wantRun(t, annCode, "11 redeem client=app redirect=app:cb code=code1 verifier=v -> access2 refresh3 ann read,write",
		"61 refresh client=app code=refresh3 -> access4 refresh5 ann read,write", "70 refresh client=app code=refresh5 -> access6 refresh7 ann read,write", "112 refresh client=app code=refresh5 -> reuse")
	s := shop()
	s.Short, s.Long = 50, 2
	asks := grantAsksOf(annCode, annTokens, "5 refresh client=app code=refresh3", "5 introspect code=access2")
	if replies := askRun(t, s, asks); replies[2].Err != impl.ErrExpired || !replies[3].Active {
		t.Errorf("got %s, %s", replyText(replies[2]), replyText(replies[3]))
	}
}

func TestDevices(t *testing.T) {
	const begun, yes = "1 device client=app scopes=read,send -> device1 user2", "2 approve user=bob code=user2 -> done"
	const no = "2 approve user=bob code=user2 deny -> done"
	tokens := "access3 refresh4 bob read,send"
	wantRun(t, begun, yes, "2 poll client=app code=device1 -> "+tokens, "2 introspect code=access3 -> active bob @app read,send", "9 poll client=app code=device1 -> used", "9 introspect code=access3 -> active bob @app read,send", "9 poll client=app code=device1 -> used", "99 poll client=app code=device1 -> used", "99 refresh client=app code=refresh4 -> expired", "99 refresh client=app code=refresh4 scopes=send -> expired")
	wantRun(t, begun, no, "2 poll client=app code=device1 -> denied", "7 poll client=app code=device1 -> denied", "8 poll client=app code=device1 -> slow", "12 poll client=app code=device1 -> expired")
	wantRun(t, begun, "2 poll client=app code=device1 -> wait", "2 poll client=app code=device1 -> slow", "3 approve user=bob code=user2 -> done", "6 poll client=app code=device1 -> slow", "11 poll client=app code=device1 -> "+tokens)
	// Five behind the last poll that came as far is enough, four is not; one that was too early counts for the next.
	wantRun(t, begun, "2 poll client=app code=device1 -> wait", "6 poll client=app code=device1 -> slow", "7 poll client=app code=device1 -> slow", "11 poll client=app code=device1 -> slow")
	wantRun(t, begun, "2 poll client=app code=device1 -> wait", "6 approve user=bob code=user2 -> done", "7 poll client=app code=device1 -> "+tokens)
	wantRun(t, begun, "2 poll client=app code=device1 -> wait", "6 poll client=app code=device1 -> slow", "6 approve user=bob code=user2 -> done", "11 poll client=app code=device1 -> "+tokens)
	wantRun(t, begun, "2 poll client=app code=device1 -> wait", "6 poll client=app code=device1 -> slow", "6 approve user=bob code=user2 deny -> done", "10 poll client=app code=device1 -> slow", "11 poll client=app code=device1 -> slow")
	// Polls that did not come as far do not count.
	for line, err := range map[string]string{"poll client=fox code=device1": "code", "poll client=app code=user2": "code", "poll client=app secret=x code=device1": "secret", "poll client=nobody code=device1": "client", "poll client=app code=device1 scopes=b,a": "form", "poll client=app": "code"} {
		wantRun(t, begun, "2 "+line+" -> "+err, "2 poll client=app code=device1 -> wait", "6 "+line+" -> "+err, "7 poll client=app code=device1 -> wait")
	}
	wantRun(t, begun, "7 poll client=app code=device1 -> wait", "12 poll client=app code=device1 -> expired", "12 poll client=app code=device1 -> expired", "13 approve user=bob code=user2 -> code")
	// Each device has a pause of its own.
	wantRun(t, begun, "1 device client=app scopes=write -> device3 user4", "2 poll client=app code=device1 -> wait", "2 poll client=app code=device3 -> wait", "3 approve user=cy code=user4 -> done", "7 poll client=app code=device3 -> access5 refresh6 cy write", "7 poll client=app code=device1 -> wait")
	wantRun(t, begun, "11 approve user=bob code=user2 -> done", "11 poll client=app code=device1 -> "+tokens)
	wantRun(t, begun, "12 approve user=bob code=user2 -> code", "12 poll client=app code=device1 -> expired")
	wantRun(t, begun, yes, "12 poll client=app code=device1 -> expired", "13 poll client=app code=device1 -> expired")
}

func TestApprovals(t *testing.T) {
	const begun = "1 device client=once scopes=read -> device1 user2"
	const poll = "8 poll client=once secret=o! code=device1 -> "
	// The first answer stands.
	for _, first := range []struct{ line, want string }{{"2 approve user=ann code=user2", "access3 ann read"}, {"2 approve user=ann code=user2 deny", "denied"}} {
		for _, second := range []string{"approve user=bob code=user2", "approve user=ann code=user2", "approve user=bob code=user2 deny"} {
			wantRun(t, begun, first.line+" -> done", "3 "+second+" -> code", poll+first.want, "9 "+second+" -> code")
		}
	}
	for line, want := range map[string]string{
		"2 approve code=user2":                                      "user",
		"2 approve user=1 code=user2":                               "user",
		"2 approve user=1 code=x":                                   "user",
		"2 approve user=a-b code=user2 deny":                        "user",
		"2 approve user=ann code=device1":                           "code",
		"2 approve user=ann code=user1":                             "code",
		"2 approve user=ann code=user3":                             "code",
		"2 approve user=ann code=code2":                             "code",
		"2 approve user=ann":                                        "code",
		"2 approve user=ann code=user2 scopes=b,a":                  "form",
		"0 approve user=ann code=user2":                             "time",
		"2 poll client=once secret=o! code=user2":                   "code",
		"2 redeem client=once secret=o! code=device1":               "code",
		"2 refresh client=once secret=o! code=user2":                "token",
		"2 revoke client=once secret=o! code=device1":               "done",
		"2 revoke client=once secret=o! code=user2":                 "done",
		"2 exchange client=once secret=o! code=device1 scopes=read": "token",
	} {
		wantRun(t, begun, line+" -> "+want, poll+"wait")
		wantRun(t, begun, line+" -> "+want, "2 approve user=ann code=user2 -> done", poll+"access3 ann read")
	}
	// Neither a client nor a secret is asked for.
	for _, more := range []string{"", " client=nobody", " client=app secret=x", " client=svc secret=wrong", " scopes=zoo audience=x redirect=y verifier=z challenge=c"} {
		wantRun(t, begun, "2 approve user=ann code=user2"+more+" -> done", poll+"access3 ann read")
	}
	// A name of as many bytes as there may be.
	wantRun(t, begun, "2 approve user="+longName("u")+"u code=user2 -> user", "2 approve user="+longName("u")+" code=user2 -> done", poll+"access3 "+longName("u")+" read")
}

func TestExchanges(t *testing.T) {
	for line, want := range map[string]string{
		"3 exchange client=svc secret=s code=access2 scopes=read audience=db": "access4 ann read",
		"3 exchange client=svc secret=s code=access2 scopes=read":             "access4 ann read",
		// The client of an exchange need not have the scopes itself.
		"3 exchange client=svc secret=s code=access2 scopes=read,write":      "access4 ann read,write",
		"3 exchange client=svc secret=s code=access2":                        "scope",
		"3 exchange client=svc secret=s code=access2 scopes=send":            "scope",
		"3 exchange client=svc secret=s code=access2 scopes=read,send,write": "scope",
		"3 exchange client=fox code=access2 scopes=write":                    "access4 ann write",
		"3 exchange client=once secret=o! code=access2 scopes=write":         "access4 ann write",
		"3 exchange client=app code=access2 scopes=read":                     "kind",
		"3 exchange client=app code=x":                                       "kind",
		"3 exchange client=weak code=access2 scopes=read":                    "kind",
		"3 exchange client=idle code=access2":                                "kind",
		"3 exchange client=svc code=access2 scopes=read":                     "secret",
		"3 exchange client=svc secret=o! code=access2 scopes=read":           "secret",
		"3 exchange client=fox secret=s code=access2 scopes=read":            "secret",
		"3 exchange client=nobody code=access2 scopes=read":                  "client",
		"3 exchange client=svc secret=s code=refresh3 scopes=read":           "token",
		"3 exchange client=svc secret=s code=code1 scopes=read":              "token",
		"3 exchange client=svc secret=s code=access3 scopes=read":            "token",
		"3 exchange client=svc secret=s code=access1 scopes=read":            "token",
		"3 exchange client=svc secret=s scopes=read":                         "token",
		"3 exchange client=svc secret=s":                                     "token",
		"12 exchange client=svc secret=s code=access2 scopes=read":           "access4 ann read",
		"13 exchange client=svc secret=s code=access2 scopes=read":           "token",
		"13 exchange client=svc secret=s code=access2":                       "token",
	} {
		wantRun(t, annCode, annTokens, line+" -> "+want)
	}
	for _, ahead := range []string{"3 revoke client=app code=access2 -> done", "3 revoke client=app code=refresh3 -> done", "3 redeem client=app code=code1 -> used"} {
		wantRun(t, annCode, annTokens, ahead, "3 exchange client=svc secret=s code=access2 scopes=read -> token", "3 exchange client=svc secret=s code=access2 -> token")
	}
	// An exchange of an exchange has no more, and for no longer, than the one it is of.
	asks := []string{
		annCode, annTokens,
		"5 exchange client=svc secret=s code=access2 scopes=read audience=db -> access4 ann read",
		"9 exchange client=fox code=access4 scopes=read audience=log -> access5 ann read",
		"9 exchange client=fox code=access4 scopes=write -> scope",
		"9 exchange client=fox code=access4 scopes=read,write -> scope",
		"10 refresh client=app code=refresh3 -> access6 refresh7 ann read,write",
		"12 exchange client=once secret=o! code=access6 scopes=write -> access8 ann write",
		"12 exchange client=once secret=o! code=access8 scopes=write audience=x -> access9 ann write",
		"13 exchange client=fox code=access5 scopes=read -> token",
	}
	wantRun(t, asks...)
	wantLive(t, grantAsksOf(asks[:9]...), 12, "access2 ann @app read,write till 12", "access4 ann @svc read till 12 (db)", "access5 ann @fox read till 12 (log)", "access6 ann @app read,write till 20", "access8 ann @once write till 20", "access9 ann @once write till 20 (x)")
	wantLive(t, grantAsksOf(asks...), 13, "access6 ann @app read,write till 20", "access8 ann @once write till 20", "access9 ann @once write till 20 (x)")
	wantLive(t, grantAsksOf(asks...), 20, "access6 ann @app read,write till 20", "access8 ann @once write till 20", "access9 ann @once write till 20 (x)")
	wantLive(t, grantAsksOf(asks...), 21)
	// To revoke the one that was exchanged leaves the others, for it ends no grant; whose each is counts.
	wantRun(t, annCode, annTokens,
		"5 exchange client=svc secret=s code=access2 scopes=read audience=db -> access4 ann read",
		"6 revoke client=app code=access4 -> done", "6 introspect code=access4 -> active ann @svc read",
		"6 revoke client=app code=access2 -> done", "6 introspect code=access2 -> done", "6 introspect code=access4 -> active ann @svc read",
		"6 exchange client=fox code=access4 scopes=read -> access5 ann read",
		"6 revoke client=svc secret=s code=access4 -> done", "6 introspect code=access4 -> done", "6 introspect code=access5 -> active ann @fox read",
		"7 refresh client=app code=refresh3 -> access6 refresh7 ann read,write",
	)
}

func TestIntrospectAndRevokeOfEachHandle(t *testing.T) {
	ahead := []string{
		annCode, annTokens,
		"2 device client=fox scopes=send -> device4 user5", "2 approve user=bob code=user5 -> done", "2 poll client=fox code=device4 -> access6 refresh7 bob send",
		"2 exchange client=svc secret=s code=access6 scopes=send audience=q -> access8 bob send",
		"2 authorize client=once redirect=once:cb challenge=v user=cy scopes=read -> code9", "2 device client=once scopes=write -> device10 user11",
	}
	all := []string{"access2", "access6", "access8"}
	texts := map[string]string{"access2": "active ann @app read,write", "access6": "active bob @fox send", "access8": "active bob @svc send"}
	introspects := func(dead ...string) []string {
		var lines []string
		for _, handle := range all {
			want := texts[handle]
			if slices.Contains(dead, handle) {
				want = "done"
			}
			lines = append(lines, "2 introspect code="+handle+" -> "+want)
		}
		return lines
	}
	for _, handle := range []string{"code1", "refresh3", "device4", "user5", "refresh7", "code9", "device10", "user11", "access1", "access3", "access9", "refresh2", "x", "", "-"} {
		wantRun(t, append(slices.Clone(ahead), "2 introspect code="+handle+" -> done")...)
	}
	for _, more := range []string{"", " client=nobody", " client=app secret=x", " client=svc secret=wrong"} {
		wantRun(t, append(slices.Clone(ahead), "2 introspect code=access2"+more+" -> active ann @app read,write")...)
	}
	dead := map[string][]string{
		"app access2": {"access2"}, "app refresh3": {"access2"}, "fox access6": {"access6"}, "fox refresh7": {"access6", "access8"}, "svc access8": {"access8"},
	}
	for _, client := range []string{"app", "fox", "idle", "once", "svc", "weak"} {
		for _, handle := range []string{"code1", "access2", "refresh3", "device4", "user5", "access6", "refresh7", "access8", "code9", "device10", "user11", "access1", "access9", "refresh9", "x", ""} {
			revoke := "2 revoke client=" + client + " secret=" + secretsOfShop[client] + " code=" + handle + " -> done"
			wantRun(t, slices.Concat(ahead, introspects(), []string{revoke}, introspects(dead[client+" "+handle]...), []string{
				revoke, "2 redeem client=once secret=o! redirect=once:cb code=code9 verifier=v -> access12 cy read", "2 approve user=dan code=user11 -> done", "2 poll client=once secret=o! code=device10 -> access13 dan write",
			})...)
		}
	}
	for _, line := range []string{"revoke client=nobody code=access2 -> client", "revoke code=access2 -> client", "revoke client=app secret=x code=access2 -> secret", "revoke client=svc code=access8 -> secret"} {
		wantRun(t, slices.Concat(ahead, []string{"2 " + line}, introspects())...)
	}
	// A used, an expired and an ended refresh are refreshes, too.
	for _, handle := range []string{"refresh3", "refresh5"} {
		wantRun(t, annCode, annTokens, "3 refresh client=app code=refresh3 -> access4 refresh5 ann read,write", "4 revoke client=app code="+handle+" -> done", "4 introspect code=access2 -> done", "4 introspect code=access4 -> done", "4 refresh client=app code=refresh5 -> reuse", "4 revoke client=app code="+handle+" -> done")
	}
	s := shop()
	s.Short, s.Long = 50, 2
	if replies := askRun(t, s, grantAsksOf(annCode, annTokens, "9 introspect code=access2", "9 revoke client=app code=refresh3", "9 introspect code=access2")); !replies[2].Active || replies[4].Active {
		t.Errorf("an expired refresh is revoked: got %s, %s", replyText(replies[2]), replyText(replies[4]))
	}
}

// Who knows a handle ahead of its being given gets nothing by it.
func TestHandlesAheadOfTheirBeingGiven(t *testing.T) {
	wantRun(t,
		"1 redeem client=app redirect=app:cb code=code1 verifier=v -> code", "1 introspect code=access2 -> done", "1 revoke client=app code=access2 -> done", "1 revoke client=app code=refresh3 -> done", "1 refresh client=app code=refresh3 -> token", "1 exchange client=fox code=access2 scopes=read -> token",
		annCode, "1 revoke client=app code=access2 -> done", "1 revoke client=app code=refresh3 -> done", annTokens, "2 introspect code=access2 -> active ann @app read,write", "2 refresh client=app code=refresh3 -> access4 refresh5 ann read,write",
	)
	wantRun(t,
		"1 approve user=ann code=user2 -> code", "1 approve user=ann code=user2 deny -> code", "1 poll client=app code=device1 -> code",
		"1 device client=app scopes=read -> device1 user2", "1 poll client=app code=device1 -> wait", "1 approve user=bob code=user2 -> done", "6 poll client=app code=device1 -> access3 refresh4 bob read",
	)
}

// One row of numbers for all kinds; what had an Err took none.
func TestTheRowOfNumbers(t *testing.T) {
	errs := []string{
		"2 authorize client=app redirect=x -> redirect", "2 redeem client=app code=x -> code", "2 refresh client=app code=x -> token", "2 device client=idle -> kind", "2 approve user=ann code=x -> code", "2 poll client=app code=x -> code", "2 exchange client=fox code=x -> token", "2 introspect code=x -> done", "2 revoke client=app code=x -> done", "1 introspect -> time", "2 introspect scopes=b,a -> form",
	}
	lines := []string{"1 authorize client=app redirect=app:cb challenge=v user=ann scopes=read,write -> code1"}
	for _, line := range []string{
		annTokens, "2 device client=fox scopes=read -> device4 user5", "2 authorize client=once redirect=once:cb challenge=v user=bob scopes=read -> code6", "2 approve user=cy code=user5 -> done", "2 redeem client=once secret=o! redirect=once:cb code=code6 verifier=v -> access7 bob read",
		"2 poll client=fox code=device4 -> access8 refresh9 cy read", "2 exchange client=svc secret=s code=access8 scopes=read -> access10 cy read",
	} {
		lines = append(append(lines, line), errs...)
	}
	wantRun(t, lines[:min(len(lines), 100)]...)
	wantRun(t, "0 device client=app scopes=read -> device1 user2", "0 device client=app scopes=read -> device3 user4", "0 authorize client=fox redirect=app:cb challenge=v user=ann scopes=read -> code5", "0 redeem client=fox redirect=app:cb code=code5 verifier=w -> verifier", "0 authorize client=fox redirect=app:cb challenge=v user=ann scopes=read -> code6")
	// As many handles as a hundred asks can give: two for each.
	asks := slices.Repeat(grantAsksOf("0 device client=app scopes=read"), 100)
	if replies := askRun(t, shop(), asks); replyText(replies[99]) != "device199 user200" {
		t.Errorf("got %s", replyText(replies[99]))
	}
}

func TestTimes(t *testing.T) {
	wantRun(t, "0 introspect -> done", "0 introspect -> done", "100000000000 introspect -> done", "99999999999 introspect -> time", "100000000001 introspect -> form", "-1 introspect -> form", "0 introspect -> time", "100000000000 introspect -> done")
	// What had one of the first two Errs gives no time; what had another one does.
	wantRun(t, "5 introspect -> done", "100000000001 introspect -> form", "90 introspect scopes=b,a -> form", "3 introspect -> time", "4 introspect -> time", "5 introspect -> done")
	for line, err := range map[string]string{
		"9 authorize client=nobody": "client", "9 redeem client=app secret=x": "secret", "9 authorize client=app": "redirect", "9 redeem client=app": "code", "9 refresh client=app": "token", "9 device client=idle": "kind", "9 device client=app": "scope", "9 approve": "user", "9 approve user=a": "code", "9 poll client=app": "code", "9 exchange client=app": "kind", "9 exchange client=fox": "token",
	} {
		wantRun(t, "5 introspect -> done", line+" -> "+err, "8 introspect -> time", "9 introspect -> done", "7 "+strings.TrimPrefix(line, "9 ")+" -> time")
	}
	// An ask that had ErrTime is no ask ahead, nor is one that had ErrForm.
	wantRun(t, "9 introspect -> done", "8 introspect -> time", "7 introspect -> time", "9 introspect -> done", "200 introspect redirect="+strings.Repeat("r", 201)+" -> form", "9 introspect -> done")
	// All may be done at one time, and at the last time: what is given then is good beyond it.
	end := "100000000000 "
	asks := []string{end + "authorize client=app redirect=app:cb challenge=v user=ann scopes=read -> code1", end + "redeem client=app redirect=app:cb code=code1 verifier=v -> access2 refresh3 ann read", end + "exchange client=svc secret=s code=access2 scopes=read -> access4 ann read", end + "refresh client=app code=refresh3 -> access5 refresh6 ann read"}
	wantRun(t, asks...)
	wantLive(t, grantAsksOf(asks...), lastTime+10, "access2 ann @app read till 100000000010", "access4 ann @svc read till 100000000010", "access5 ann @app read till 100000000010")
	wantLive(t, grantAsksOf(asks...), lastTime+11)
	wantLive(t, grantAsksOf(asks...), lastTime-1)
}

func TestLongTexts(t *testing.T) {
	for _, field := range []string{"client", "secret", "redirect", "challenge", "verifier", "user", "code", "audience"} {
		for kind := 1; kind <= 9; kind++ {
			for _, length := range []int{0, 1, 199, 200, 201, 202, 9000} {
				for _, letter := range []string{"a", " ", "\x00", "\xff"} {
					c := plainGrantCase(kind)
					text := strings.Repeat(letter, length)
					if field == "challenge" {
						c.last.Challenge = text
					} else {
						tellField(&c.last, field, text)
					}
					replies := askRun(t, c.server, c.asks())
					if got := replies[len(replies)-1].Err; (got == impl.ErrForm) != (length > 200) {
						t.Errorf("%s of %d bytes in %s: got %d", field, length, wordsOfAsks[kind], got)
					}
				}
			}
		}
	}
	// The longest texts that count.
	long := strings.Repeat("x", 200)
	s := shopWith(func(c *impl.Client) { c.Redirects, c.Secret = []string{long}, impl.Digest([]byte(long)) })
	asks := grantAsksOf("1 authorize client=app redirect="+long+" challenge="+long+" user=ann scopes=read", "1 redeem client=app secret="+long+" redirect="+long+" code=code1 verifier="+long, "1 exchange client=fox code=access2 scopes=read audience="+long)
	if got := liveText(askLive(t, s, asks, 1)); got != "access2 ann @app read till 11; access4 ann @fox read till 11 ("+long+")" {
		t.Errorf("got %s", got)
	}
}

func TestScopesOfAsks(t *testing.T) {
	for kind := 1; kind <= 9; kind++ {
		for _, scopes := range append(badScopeLists(), goodScopeLists()...) {
			c := plainGrantCase(kind)
			c.last.Scopes = scopes
			replies := askRun(t, c.server, c.asks())
			if got, want := replies[len(replies)-1].Err, len(scopes) > 20 || !areNamesByWords(scopes); (got == impl.ErrForm) != want {
				t.Errorf("%.80q in %s: got %d", scopes, wordsOfAsks[kind], got)
			}
		}
	}
	// As many scopes as there may be.
	all := countedNames(20)
	s := shopWith(func(c *impl.Client) { c.Scopes = all })
	asks := grantAsksOf("1 authorize client=app redirect=app:cb challenge=v user=ann scopes="+strings.Join(all, ","), "1 redeem client=app redirect=app:cb code=code1 verifier=v", "1 refresh client=app code=refresh3 scopes="+strings.Join(all[:19], ","), "1 refresh client=app code=refresh5")
	replies := askRun(t, s, asks)
	for i, want := range []int{0, 20, 19, 20} {
		if got := len(replies[i].Scopes); got != want || replies[i].Err != 0 {
			t.Errorf("%d: got %d scopes", i, got)
		}
	}
}

func TestKindsOfAsks(t *testing.T) {
	for _, kind := range append(oddInts(), 5, 6, 7, 8, 9, 10, 11, 12) {
		a := impl.GrantAsk{Kind: kind}
		if got := askRun(t, shop(), []impl.GrantAsk{a})[0].Err; (got == impl.ErrForm) != (kind < 1 || kind > 9) {
			t.Errorf("%d: got %d", kind, got)
		}
	}
}

func TestClientsAndTheirSecrets(t *testing.T) {
	secrets := []string{"", "s", "o!", "S", "s ", string(impl.Digest([]byte("s"))), strings.Repeat("s", 200)}
	for kind := 1; kind <= 9; kind++ {
		for _, client := range []string{"", "APP", "ap", "appp", "app", "fox", "idle", "once", "svc", "weak", "zoo", "a b"} {
			for _, secret := range secrets {
				a := impl.GrantAsk{Kind: kind, Client: client, Secret: secret}
				right, known := secretsOfShop[client]
				want := 0
				switch {
				case kind == impl.AskApprove || kind == impl.AskIntrospect:
				case !known:
					want = impl.ErrClient
				case kind != impl.AskAuthorize && kind != impl.AskDevice && secret != right:
					want = impl.ErrSecret
				}
				got := askRun(t, shop(), []impl.GrantAsk{a})[0].Err
				if want != 0 && got != want || want == 0 && (got == impl.ErrClient || got == impl.ErrSecret) {
					t.Errorf("%s by %q with %.20q: got %d, want %d", wordsOfAsks[kind], client, secret, got, want)
				}
			}
		}
	}
}

func TestEachErrAlone(t *testing.T) {
	for kind := 1; kind <= 9; kind++ {
		plain := plainGrantCase(kind)
		for i, reply := range askRun(t, plain.server, plain.asks()) {
			if reply.Err != 0 {
				t.Errorf("%s: ask %d has %d", wordsOfAsks[kind], i, reply.Err)
			}
		}
		spoils := grantSpoils(kind)
		if len(spoils) != len(errsOfAsks[kind]) {
			t.Errorf("%s: there are ways to %d Errs of %d", wordsOfAsks[kind], len(spoils), len(errsOfAsks[kind]))
		}
		for _, want := range errsOfAsks[kind] {
			for i, spoil := range spoils[want] {
				c := plainGrantCase(kind)
				spoil(&c)
				replies := askRun(t, c.server, c.asks())
				if got := replies[len(replies)-1].Err; got != want {
					t.Errorf("%s, way %d to %s: got %s", wordsOfAsks[kind], i, wordsOfErrs[want], wordsOfErrs[got])
				}
			}
		}
	}
}

// Where several Errs hold the first is told: each way to each Err is put together with those to the others. The last ones are made first, so that what an Err needs of the asks ahead is there.
func TestTheFirstErrIsTold(t *testing.T) {
	for kind := 1; kind <= 9; kind++ {
		errs, spoils := errsOfAsks[kind], grantSpoils(kind)
		for bits := 1; bits < 1<<len(errs); bits++ {
			for turn := range 6 {
				c := plainGrantCase(kind)
				want := 0
				for i := len(errs) - 1; i >= 0; i-- {
					if bits>>i&1 == 1 {
						want = errs[i]
						spoils[want][(turn*7+bits+bits/(i+2))%len(spoils[want])](&c)
					}
				}
				replies := askRun(t, c.server, c.asks())
				if got := replies[len(replies)-1].Err; got != want {
					t.Errorf("%s, Errs %b, turn %d: got %s, want %s", wordsOfAsks[kind], bits, turn, wordsOfErrs[got], wordsOfErrs[want])
				}
			}
		}
	}
}

// Behind an Err all is as it was, but for what is told: where the last ask alone was changed, the plain one is done behind it as if there were none.
func TestAnErrLeavesAllAsItWas(t *testing.T) {
	tells := map[int][]int{impl.AskRedeem: {impl.ErrExpired, impl.ErrOther, impl.ErrVerifier}, impl.AskRefresh: {impl.ErrExpired}, impl.AskApprove: {impl.ErrCode}, impl.AskPoll: {impl.ErrExpired, impl.ErrSlow, impl.ErrDenied, impl.ErrWait}, impl.AskExchange: {impl.ErrToken}}
	tried := 0
	for kind := 1; kind <= 9; kind++ {
		for _, err := range errsOfAsks[kind] {
			for i, spoil := range grantSpoils(kind)[err] {
				c, plain := plainGrantCase(kind), plainGrantCase(kind)
				spoil(&c)
				same := len(c.ahead) == len(plain.ahead) && shown(c.server) == shown(plain.server)
				if !same || slices.Contains(tells[kind], err) && c.last.Code == plain.last.Code && c.last.Client == plain.last.Client {
					continue
				}
				tried++
				replies, want := askRun(t, c.server, append(c.asks(), plain.last)), askRun(t, plain.server, plain.asks())
				if got := replies[len(replies)-1]; !sameReply(got, want[len(want)-1]) || replies[len(replies)-2].Err != err {
					t.Errorf("%s behind way %d to %s: got %s", wordsOfAsks[kind], i, wordsOfErrs[err], replyText(got))
				}
			}
		}
	}
	if tried < 300 {
		t.Errorf("only %d ways", tried)
	}
}

func TestLiveTokens(t *testing.T) {
	asks := story()
	all := []string{
		"access2 ann @app read,write till 12", "access4 ann @svc read till 12 (db)", "access5 ann @app write till 13", "access12 cy @once read till 16", "access13 cy @fox read till 16 (log)",
	}
	for _, time := range []int{math.MinInt, -1, 0, 1, 8} {
		wantLive(t, asks, time)
	}
	for time, from := range map[int]int{9: 0, 10: 0, 12: 0, 13: 2, 14: 3, 16: 3, 17: 5, 100: 5, lastTime: 5, lastTime + 1: 5, math.MaxInt: 5} {
		wantLive(t, asks, time, all[from:]...)
	}
	// Without the last two asks there is one that was revoked by them; without more there are fewer.
	wantLive(t, asks[:11], 7, slices.Insert(slices.Clone(all), 3, "access9 bob @fox read,send till 15")...)
	wantLive(t, asks[:11], 6)
	wantLive(t, asks[:2], 2, all[0])
	wantLive(t, asks[:2], 1)
	wantLive(t, asks[:1], 2)
	wantLive(t, nil, 0)
	wantLive(t, nil, -1)
	// An ask without a now counts for none: the one ahead does.
	for _, a := range []impl.GrantAsk{{Kind: impl.AskIntrospect, Time: lastTime + 1}, {Kind: 10, Time: 50}, {Kind: impl.AskIntrospect, Time: 50, Scopes: []string{"b", "a"}}, {Kind: impl.AskIntrospect, Time: 8}, {Time: -1}} {
		wantLive(t, append(slices.Clone(asks), a), 9, all...)
		wantLive(t, append(slices.Clone(asks), a), 8)
	}
	for _, a := range []impl.GrantAsk{{Kind: impl.AskIntrospect, Time: 11}, {Kind: impl.AskAuthorize, Time: 11, Client: "nobody"}, {Kind: impl.AskRedeem, Time: 11, Client: "svc"}} {
		wantLive(t, append(slices.Clone(asks), a), 11, all...)
		wantLive(t, append(slices.Clone(asks), a), 10)
	}
}

// drawnStories are servers behind many drawn asks, some of which are as long as may be.
func drawnStories(many int) []servedAsks {
	from := drawn()
	var all []servedAsks
	for i := range many {
		length := 5 + from.Intn(40)
		if i%20 == 0 {
			length = 100
		}
		all = append(all, drawnServed(from, drawnShop(from), length))
	}
	return all
}

// All that may come of each kind of ask comes of some.
func TestDrawnStories(t *testing.T) {
	counts := map[int]map[int]int{}
	for _, h := range drawnStories(700) {
		askReplies(t, h, impl.RunServer(h.server, h.asks()))
		for more := range 8 {
			time := h.now() - 1 + more*more
			want := h.live(time)
			if more == 0 {
				want = nil
			}
			if got := impl.LiveTokens(h.server, h.asks(), time); !sameLive(got, want) {
				t.Errorf("%.900s at %d: got %s, want %s", shown(h.asks()), time, shown(got), shown(want))
			}
		}
		for _, x := range h.done {
			if counts[x.ask.Kind] == nil {
				counts[x.ask.Kind] = map[int]int{}
			}
			counts[x.ask.Kind][x.reply.Err]++
		}
	}
	for kind, errs := range errsOfAsks {
		for _, err := range append(errs, 0) {
			if counts[kind][err] < 3 {
				t.Errorf("%s comes to %s only %d times", wordsOfAsks[kind], wordsOfErrs[err], counts[kind][err])
			}
		}
		if len(counts[kind]) != len(errs)+1 {
			t.Errorf("%s comes to %v", wordsOfAsks[kind], counts[kind])
		}
	}
}

// yes is who said yes to what, in the ask that began a grant, or in the approval of its device.
func (h servedAsks) yes(root int) (string, []string) {
	a := h.done[root].ask
	if a.Kind == impl.AskAuthorize {
		return a.User, a.Scopes
	}
	for _, x := range h.done[root:] {
		if x.isDone(impl.AskApprove) && x.ask.Code == h.done[root].reply.Refresh && !x.ask.Deny {
			return x.ask.User, a.Scopes
		}
	}
	return "", nil
}

// Promise 18: a live token goes back to a User's yes for all its scopes, behind each beginning of a story.
func TestALiveTokenGoesBackToAYes(t *testing.T) {
	seen := 0
	for _, h := range drawnStories(400) {
		asks := h.asks()
		replies := impl.RunServer(h.server, asks)
		for end := range len(asks) + 1 {
			own := servedAsks{h.server, nil}
			for i := range end {
				own.done = append(own.done, servedAsk{asks[i], replies[i]})
			}
			for _, token := range impl.LiveTokens(h.server, asks[:end], own.now()) {
				seen++
				at := own.giver("access", token.Handle)
				if at < 0 {
					t.Fatalf("%s was not given", token.Handle)
				}
				user, scopes := own.yes(own.root(at))
				if user == "" || user != token.User || len(token.Scopes) == 0 || !areAllIn(token.Scopes, scopes) {
					t.Errorf("%s of %s for %v: %s said yes to %v", token.Handle, token.User, token.Scopes, user, scopes)
				}
				// Each step on the way has no more scopes than the one ahead, and reaches no further than an exchange may.
				if token.Client != own.done[at].ask.Client || token.Until > own.done[at].ask.Time+h.server.Short || token.Until < own.now() {
					t.Errorf("%s: %s", token.Handle, shown(token))
				}
			}
		}
	}
	if seen < 5000 {
		t.Errorf("only %d live tokens", seen)
	}
}

// Promise 18: a code and a refresh are used once, and used again they end what came of them, whatever comes then.
func TestCodesAndRefreshesAreUsedOnce(t *testing.T) {
	again := map[int]int{}
	for _, h := range drawnStories(600) {
		asks := h.asks()
		done := map[string]int{}
		ended := map[int]bool{}
		for i, reply := range impl.RunServer(h.server, asks) {
			a := asks[i]
			sort := map[int]string{impl.AskRedeem: "code", impl.AskRefresh: "refresh"}[a.Kind]
			if sort == "" || h.giverFor(sort, a) < 0 || slices.Contains([]int{impl.ErrForm, impl.ErrTime, impl.ErrClient, impl.ErrSecret, impl.ErrCode, impl.ErrToken}, reply.Err) {
				continue
			}
			root := h.root(h.giver(sort, a.Code))
			switch {
			case ended[root] && reply.Err != impl.ErrUsed && reply.Err != impl.ErrReuse:
				t.Errorf("%s of an ended grant: got %s", sort, replyText(reply))
			case reply.Err == 0 && done[a.Code] > 0:
				t.Errorf("%s was used before: got %s", a.Code, replyText(reply))
			case reply.Err == 0:
				done[a.Code]++
			case reply.Err == impl.ErrUsed || reply.Err == impl.ErrReuse:
				ended[root] = true
				again[reply.Err]++
				for _, end := range []int{i + 1, (i + 1 + len(asks)) / 2, len(asks)} {
					for _, token := range impl.LiveTokens(h.server, asks[:end], h.now()) {
						if h.root(h.giver("access", token.Handle)) == root {
							t.Errorf("%s is live, though its grant is ended", token.Handle)
						}
					}
				}
			}
		}
	}
	if again[impl.ErrUsed] < 200 || again[impl.ErrReuse] < 200 {
		t.Errorf("too few are used again: %v", again)
	}
}

// A redeem of the same code behind any story ends all that came of it, and so does a refresh of the same refresh.
func TestToUseAnyAgainEndsWhatCameOfIt(t *testing.T) {
	tried := map[int]int{}
	for _, h := range drawnStories(600) {
		if len(h.done) > 98 {
			continue
		}
		asks, now := h.asks(), h.now()
		before := impl.LiveTokens(h.server, asks, now)
		for i, x := range h.done {
			if !x.isDone(impl.AskRedeem) && !x.isDone(impl.AskRefresh) {
				continue
			}
			again := x.ask
			again.Time = now
			more := append(slices.Clone(asks), again)
			if got, want := impl.RunServer(h.server, more)[len(asks)].Err, map[int]int{impl.AskRedeem: impl.ErrUsed, impl.AskRefresh: impl.ErrReuse}[again.Kind]; got != want {
				t.Errorf("again: got %d, want %d", got, want)
			}
			var want []impl.LiveToken
			for _, token := range before {
				if h.root(h.giver("access", token.Handle)) != h.root(i) {
					want = append(want, token)
				}
			}
			if len(want) < len(before) {
				tried[again.Kind]++
			}
			if got := impl.LiveTokens(h.server, more, now); !sameLive(got, want) {
				t.Errorf("behind what was used again: got %s, want %s", liveText(got), liveText(want))
			}
		}
	}
	if tried[impl.AskRedeem] < 100 || tried[impl.AskRefresh] < 50 {
		t.Errorf("too few ended anything: %v", tried)
	}
}

// What is not live any more never is again, and the replies to a beginning of a story stand whatever comes behind it.
func TestBeginningsOfStories(t *testing.T) {
	for _, h := range drawnStories(60) {
		asks := h.asks()
		all := impl.RunServer(h.server, asks)
		over := map[string]bool{}
		var known []string
		for end := range len(asks) + 1 {
			if got := impl.RunServer(h.server, asks[:end]); !sameReplies(got, all[:end]) {
				t.Errorf("the first %d replies are others", end)
			}
			var live []string
			for _, token := range impl.LiveTokens(h.server, asks[:end], servedAsks{h.server, h.done[:end]}.now()) {
				live = append(live, token.Handle)
				if over[token.Handle] {
					t.Errorf("%s is live again", token.Handle)
				}
			}
			for _, handle := range known {
				if !slices.Contains(live, handle) {
					over[handle] = true
				}
			}
			known = append(known, live...)
		}
	}
}

// An ask with an Err that is not told to change anything is as good as one that only tells the time.
func TestErrsChangeNothingButWhatIsTold(t *testing.T) {
	tells := map[int][]int{
		impl.AskRedeem:  {impl.ErrUsed, impl.ErrExpired, impl.ErrOther, impl.ErrVerifier},
		impl.AskRefresh: {impl.ErrReuse},
		impl.AskPoll:    {impl.ErrSlow, impl.ErrDenied, impl.ErrWait},
	}
	replaced := 0
	for _, h := range drawnStories(200) {
		var asks []impl.GrantAsk
		var want []impl.GrantReply
		for _, x := range h.done {
			switch {
			case x.reply.Err == impl.ErrForm || x.reply.Err == impl.ErrTime:
				continue
			case x.reply.Err != 0 && !slices.Contains(tells[x.ask.Kind], x.reply.Err):
				asks, want = append(asks, impl.GrantAsk{Kind: impl.AskIntrospect, Time: x.ask.Time}), append(want, impl.GrantReply{})
				replaced++
			default:
				asks, want = append(asks, x.ask), append(want, x.reply)
			}
		}
		if got := impl.RunServer(h.server, asks); !sameReplies(got, want) {
			t.Errorf("without Errs: got %.300s, want %.300s", shown(got), shown(want))
		}
	}
	if replaced < 500 {
		t.Errorf("only %d were replaced", replaced)
	}
}

// What is not told of a kind of ask counts for nothing there.
func TestFieldsThatAreNotTold(t *testing.T) {
	told := map[int]string{
		impl.AskAuthorize: "client redirect challenge user scopes", impl.AskRedeem: "client secret code redirect verifier", impl.AskRefresh: "client secret code scopes", impl.AskDevice: "client scopes",
		impl.AskApprove: "user code deny", impl.AskPoll: "client secret code", impl.AskExchange: "client secret code scopes audience", impl.AskIntrospect: "code", impl.AskRevoke: "client secret code",
	}
	fields := map[string]string{"client": "fox", "secret": "zz", "redirect": "fox:cb", "challenge": "zz", "verifier": "zz", "user": "zoe", "code": "access2", "scopes": "send", "audience": "zz", "deny": ""}
	for kind, own := range told {
		plain := plainGrantCase(kind)
		want := askRun(t, plain.server, plain.asks())
		more := plainGrantCase(kind)
		for field, text := range fields {
			if slices.Contains(strings.Fields(own), field) {
				continue
			}
			c := plainGrantCase(kind)
			tellField(&c.last, field, text)
			tellField(&more.last, field, text)
			if got := askRun(t, c.server, c.asks()); !sameReplies(got, want) {
				t.Errorf("%s with %s: got %s", wordsOfAsks[kind], field, replyText(got[len(got)-1]))
			}
		}
		if got := askRun(t, more.server, more.asks()); !sameReplies(got, want) {
			t.Errorf("%s with all fields: got %s", wordsOfAsks[kind], replyText(got[len(got)-1]))
		}
	}
}

// storiesOf asks all stories that begin so, and go on with so many of the steps, each of them so much later than the one ahead.
func storiesOf(t *testing.T, begin []string, steps []string, many int) {
	t.Helper()
	choices := grantAsksOf(steps...)
	asks := grantAsksOf(begin...)
	var goOn func(left int, h servedAsks)
	goOn = func(left int, h servedAsks) {
		if left == 0 {
			askReplies(t, h, impl.RunServer(h.server, h.asks()))
			if now := h.now(); !sameLive(impl.LiveTokens(h.server, h.asks(), now+2), h.live(now+2)) {
				t.Errorf("%.900s: live are %s", shown(h.asks()), liveText(impl.LiveTokens(h.server, h.asks(), now+2)))
			}
			return
		}
		for _, a := range choices {
			a.Time += h.now()
			goOn(left-1, h.and(a))
		}
	}
	h, _ := servedByWords(shop(), asks)
	goOn(many, h)
}

// All stories of some steps, with one code, and with one device.
func TestAllShortStories(t *testing.T) {
	storiesOf(t, []string{annCode}, []string{
		"0 redeem client=app redirect=app:cb code=code1 verifier=v", "1 redeem client=app redirect=app:cb code=code1 verifier=w", "9 refresh client=app code=refresh3 scopes=read", "0 refresh client=app code=refresh5",
		"1 exchange client=svc secret=s code=access2 scopes=read", "0 exchange client=fox code=access4 scopes=read", "0 revoke client=app code=access2", "0 revoke client=app code=refresh3", "11 introspect code=access2",
	}, 5)
	storiesOf(t, []string{"1 device client=app scopes=read"}, []string{
		"0 poll client=app code=device1", "4 poll client=app code=device1", "5 poll client=app code=device1", "0 poll client=fox code=device1", "0 approve user=ann code=user2", "1 approve user=bob code=user2 deny", "1 exchange client=fox code=access3 scopes=read", "0 refresh client=app code=refresh4",
	}, 5)
}
