package tests

import (
	"math"
	"math/rand"
	"regexp"
	"slices"
	"strconv"
	"strings"

	"loop.example/g00036/impl"
)

// allKinds are the kinds of grants, each once.
func allKinds() []int {
	return []int{impl.GrantCode, impl.GrantRefresh, impl.GrantDevice, impl.GrantExchange}
}

// shop is a server with clients of every sort: app and fox are public and have one redirect in common, once has a secret and no refreshes, svc does nothing but exchange, weak has a secret of no bytes, idle can do nothing.
func shop() impl.Server {
	return impl.Server{
		Key: []byte("k"), Short: 10, Long: 50,
		Clients: []impl.Client{
			{Id: "app", Redirects: []string{"app:cb", "app:two"}, Scopes: []string{"read", "send", "write"}, Kinds: []int{1, 2, 3}},
			{Id: "fox", Redirects: []string{"fox:cb", "app:cb"}, Scopes: []string{"read", "send", "write"}, Kinds: []int{4, 3, 2, 1}},
			{Id: "idle", Redirects: []string{"idle:cb"}, Scopes: []string{"read"}},
			{Id: "once", Secret: impl.Digest([]byte("o!")), Redirects: []string{"once:cb"}, Scopes: []string{"read", "write"}, Kinds: []int{1, 3, 4, 4}},
			{Id: "svc", Secret: impl.Digest([]byte("s")), Scopes: []string{"read"}, Kinds: []int{4}},
			{Id: "weak", Secret: impl.Digest(nil), Redirects: []string{"weak:cb"}, Scopes: []string{"read"}, Kinds: []int{1, 2}},
		},
	}
}

// secretsOfShop are what the clients of the shop show.
var secretsOfShop = map[string]string{"app": "", "fox": "", "idle": "", "once": "o!", "svc": "s", "weak": ""}

var wordsOfAsks = []string{"none", "authorize", "redeem", "refresh", "device", "approve", "poll", "exchange", "introspect", "revoke"}

var wordsOfErrs = []string{"done", "client", "redirect", "kind", "scope", "challenge", "user", "secret", "code", "used", "expired", "other", "verifier", "token", "reuse", "fifteen", "slow", "wait", "denied", "time", "form"}

// errsOfAsks are, for each kind of ask, all Errs that may come of it, in the order of the document.
var errsOfAsks = map[int][]int{
	impl.AskAuthorize:  {impl.ErrForm, impl.ErrTime, impl.ErrClient, impl.ErrRedirect, impl.ErrKind, impl.ErrScope, impl.ErrChallenge, impl.ErrUser},
	impl.AskRedeem:     {impl.ErrForm, impl.ErrTime, impl.ErrClient, impl.ErrSecret, impl.ErrCode, impl.ErrUsed, impl.ErrExpired, impl.ErrOther, impl.ErrVerifier},
	impl.AskRefresh:    {impl.ErrForm, impl.ErrTime, impl.ErrClient, impl.ErrSecret, impl.ErrToken, impl.ErrReuse, impl.ErrExpired, impl.ErrScope},
	impl.AskDevice:     {impl.ErrForm, impl.ErrTime, impl.ErrClient, impl.ErrKind, impl.ErrScope},
	impl.AskApprove:    {impl.ErrForm, impl.ErrTime, impl.ErrUser, impl.ErrCode},
	impl.AskPoll:       {impl.ErrForm, impl.ErrTime, impl.ErrClient, impl.ErrSecret, impl.ErrCode, impl.ErrUsed, impl.ErrExpired, impl.ErrSlow, impl.ErrDenied, impl.ErrWait},
	impl.AskExchange:   {impl.ErrForm, impl.ErrTime, impl.ErrClient, impl.ErrSecret, impl.ErrKind, impl.ErrToken, impl.ErrScope},
	impl.AskIntrospect: {impl.ErrForm, impl.ErrTime},
	impl.AskRevoke:     {impl.ErrForm, impl.ErrTime, impl.ErrClient, impl.ErrSecret},
}

var shortHandle = regexp.MustCompile(`^(code|device|user|access|refresh)([0-9]+)$`)

// handleIn is the handle of the shop that is told in short, as `code1`; another text is itself.
func handleIn(text string) string {
	parts := shortHandle.FindStringSubmatch(text)
	if parts == nil {
		return text
	}
	return handleByWords(shop().Key, parts[1], numberOf(parts[2]))
}

// handleText tells a handle of the shop in short, and anything else as a text in quotes.
func handleText(handle string) string {
	short, _, _ := strings.Cut(handle, "-")
	if shortHandle.MatchString(short) && handleIn(short) == handle {
		return short
	}
	return strconv.Quote(handle)
}

func scopesIn(text string) []string {
	if text == "" {
		return nil
	}
	return strings.Split(text, ",")
}

// tellField puts what is told for one field of an ask into it: a challenge is told by its verifier, handles are told in short.
func tellField(a *impl.GrantAsk, field string, told string) {
	switch field {
	case "client":
		a.Client = told
	case "secret":
		a.Secret = told
	case "redirect":
		a.Redirect = told
	case "challenge":
		a.Challenge = challengeByWords(told)
	case "verifier":
		a.Verifier = told
	case "user":
		a.User = told
	case "code":
		a.Code = handleIn(told)
	case "scopes":
		a.Scopes = scopesIn(told)
	case "audience":
		a.Audience = told
	case "deny":
		a.Deny = true
	default:
		panic("no field: " + field)
	}
}

// grantAskOf is the ask of a text: the Time, the word of the kind, and the fields: `2 redeem client=app code=code1`.
func grantAskOf(text string) impl.GrantAsk {
	parts := strings.Fields(text)
	a := impl.GrantAsk{Time: timeIn(parts[0]), Kind: slices.Index(wordsOfAsks, parts[1])}
	if a.Kind < 1 {
		panic("no ask: " + text)
	}
	for _, part := range parts[2:] {
		field, told, _ := strings.Cut(part, "=")
		tellField(&a, field, told)
	}
	return a
}

func grantAsksOf(lines ...string) []impl.GrantAsk {
	var asks []impl.GrantAsk
	for _, line := range lines {
		text, _, _ := strings.Cut(line, " -> ")
		asks = append(asks, grantAskOf(text))
	}
	return asks
}

// replyText tells all that a reply of the shop tells: `done` where that is nothing.
func replyText(r impl.GrantReply) string {
	var parts []string
	if r.Err != 0 {
		parts = append(parts, wordsOfErrs[r.Err])
	}
	for _, handle := range []string{r.Code, r.Access, r.Refresh} {
		if handle != "" {
			parts = append(parts, handleText(handle))
		}
	}
	if r.Active {
		parts = append(parts, "active")
	}
	if r.User != "" {
		parts = append(parts, r.User)
	}
	if r.Client != "" {
		parts = append(parts, "@"+r.Client)
	}
	if len(r.Scopes) > 0 {
		parts = append(parts, strings.Join(r.Scopes, ","))
	}
	if len(parts) == 0 {
		return "done"
	}
	return strings.Join(parts, " ")
}

// liveText tells live tokens of the shop, each as `access2 ann @app read,write till 12`, with its audience in brackets where it has one.
func liveText(tokens []impl.LiveToken) string {
	var texts []string
	for _, x := range tokens {
		text := handleText(x.Handle) + " " + x.User + " @" + x.Client + " " + strings.Join(x.Scopes, ",") + " till " + strconv.Itoa(x.Until)
		if x.Audience != "" {
			text += " (" + x.Audience + ")"
		}
		texts = append(texts, text)
	}
	return strings.Join(texts, "; ")
}

func copiedServer(s impl.Server) impl.Server {
	s.Key, s.Clients = slices.Clone(s.Key), slices.Clone(s.Clients)
	for i, c := range s.Clients {
		c.Secret, c.Redirects, c.Scopes, c.Kinds = slices.Clone(c.Secret), slices.Clone(c.Redirects), slices.Clone(c.Scopes), slices.Clone(c.Kinds)
		s.Clients[i] = c
	}
	return s
}

func copiedAsks(asks []impl.GrantAsk) []impl.GrantAsk {
	asks = slices.Clone(asks)
	for i := range asks {
		asks[i].Scopes = slices.Clone(asks[i].Scopes)
	}
	return asks
}

// shopWith is the shop with a change of its first client.
func shopWith(change func(c *impl.Client)) impl.Server {
	s := shop()
	change(&s.Clients[0])
	return s
}

func countedClients(many int) []impl.Client {
	var clients []impl.Client
	for i := range many {
		clients = append(clients, impl.Client{Id: "c" + strconv.Itoa(100+i), Redirects: []string{"cb"}, Scopes: countedNames(3), Kinds: allKinds()})
	}
	return clients
}

func serverOf(clients ...impl.Client) impl.Server {
	return impl.Server{Clients: clients, Key: []byte("k"), Short: 10, Long: 50}
}

func goodRedirects() [][]string {
	return [][]string{nil, {}, {"x"}, {" "}, {"~"}, {strings.Repeat("r", 200)}, {printedBytes()}, {"a", "a"}, {"b", "a"}, {"b", "a", "b", "a", "a"}, {"1", "2", "3", "4", "5"}, {"https://a.b/c?d=e&f#g \"\\", "\\"}}
}

func badRedirects() [][]string {
	bad := [][]string{{""}, {"a", ""}, {"", "a"}, make([]string, 5), make([]string, 6), {"1", "2", "3", "4", "5", "6"}, {"a", "a", "a", "a", "a", "a"}, {strings.Repeat("r", 201)}, {"a", strings.Repeat("r", 9000)}}
	for _, c := range []string{"\x00", "\n", "\t", "\x1f", "\x7f", "\x80", "\xff", "é"} {
		bad = append(bad, []string{c}, []string{"a" + c}, []string{c + "a"}, []string{"a", "b", "c", "d", "e" + c})
	}
	return bad
}

func goodScopeLists() [][]string {
	return [][]string{nil, {}, {"a"}, {"_"}, {longName("z")}, {"A", "B", "_", "a", "b"}, {"a", "aa", "b"}, {"a1", "a10", "a2"}, countedNames(19), countedNames(20)}
}

func badScopeLists() [][]string {
	bad := [][]string{countedNames(21), countedNames(5000), {"b", "a"}, {"a", "a"}, {"a", "c", "b"}, {"a", "b", "b"}, {"a", "A"}, {"aa", "a"}, {"a", "b", "a"}, make([]string, 20)}
	for _, word := range badWords() {
		bad = append(bad, []string{word}, []string{word, "zz"}, []string{"A", word})
	}
	return bad
}

func goodKindLists() [][]int {
	return [][]int{nil, {}, {1}, {2}, {3}, {4}, {1, 2, 3, 4}, {4, 3, 2, 1}, {1, 1}, {4, 4, 4, 4}, {2, 1, 2, 1}}
}

func badKindLists() [][]int {
	bad := [][]int{{1, 2, 3, 4, 1}, {1, 1, 1, 1, 1}, make([]int, 4), make([]int, 5), make([]int, 5000)}
	for _, kind := range []int{math.MinInt, -4, -1, 0, 5, 6, math.MaxInt} {
		bad = append(bad, []int{kind}, []int{1, kind}, []int{kind, 4}, []int{1, 2, 3, kind})
	}
	return bad
}

func goodServers() []impl.Server {
	good := []impl.Server{shop(), {Short: 1, Long: 1}, {Short: 1000000, Long: 1000000}, {Short: 1000000, Long: 1}, {Short: 1, Long: 1000000}, serverOf(), serverOf(countedClients(1)...), serverOf(countedClients(19)...), serverOf(countedClients(20)...)}
	for _, length := range []int{0, 1, 63, 64} {
		s := shop()
		s.Key = make([]byte, length)
		good = append(good, s)
	}
	for _, length := range []int{0, 16} {
		good = append(good, shopWith(func(c *impl.Client) { c.Secret = make([]byte, length) }))
	}
	for _, k := range goodKeys() {
		good = append(good, serverOf(impl.Client{Id: k.Id}))
	}
	var all []impl.Client
	for _, id := range []string{"-", ".", "0", "1", "10", "2", "A", "B", "_", "a", "aa", "b"} {
		all = append(all, impl.Client{Id: id})
	}
	good = append(good, serverOf(all...))
	for _, list := range goodRedirects() {
		good = append(good, shopWith(func(c *impl.Client) { c.Redirects = list }))
	}
	for _, list := range goodScopeLists() {
		good = append(good, shopWith(func(c *impl.Client) { c.Scopes = list }))
	}
	for _, list := range goodKindLists() {
		good = append(good, shopWith(func(c *impl.Client) { c.Kinds = list }))
	}
	return good
}

// badServers are made of a good one by a change each.
func badServers() []impl.Server {
	bad := []impl.Server{{}, serverOf(countedClients(21)...), serverOf(countedClients(5000)...), serverOf(make([]impl.Client, 1)...), serverOf(make([]impl.Client, 20)...)}
	for _, ids := range [][]string{{"b", "a"}, {"a", "a"}, {"a", "A"}, {"2", "10"}, {"a", "c", "b"}, {"aa", "a"}, {"a", "b", "b"}, {"a", "b", "a"}} {
		var clients []impl.Client
		for _, id := range ids {
			clients = append(clients, impl.Client{Id: id})
		}
		bad = append(bad, serverOf(clients...))
	}
	for _, id := range badIds() {
		bad = append(bad, serverOf(impl.Client{Id: id}), serverOf(impl.Client{Id: "-"}, impl.Client{Id: id}))
	}
	for _, length := range []int{1, 2, 15, 17, 31, 32, 5000} {
		bad = append(bad, shopWith(func(c *impl.Client) { c.Secret = make([]byte, length) }))
	}
	for _, list := range badRedirects() {
		bad = append(bad, shopWith(func(c *impl.Client) { c.Redirects = list }))
	}
	for _, list := range badScopeLists() {
		bad = append(bad, shopWith(func(c *impl.Client) { c.Scopes = list }))
	}
	for _, list := range badKindLists() {
		bad = append(bad, shopWith(func(c *impl.Client) { c.Kinds = list }))
	}
	for _, life := range []int{math.MinInt, -1000000, -1, 0, 1000001, math.MaxInt} {
		short, long := shop(), shop()
		short.Short, long.Long = life, life
		bad = append(bad, short, long)
	}
	for _, length := range []int{65, 5000, 30000} {
		s := shop()
		s.Key = make([]byte, length)
		bad = append(bad, s)
	}
	// The last client counts as the first one does.
	last := shop()
	last.Clients[5].Kinds = []int{5}
	return append(bad, last)
}

// story is asks to the shop that are all done: it has tokens of every sort.
func story() []impl.GrantAsk {
	return grantAsksOf(
		"1 authorize client=app redirect=app:cb challenge=v1 user=ann scopes=read,write",
		"2 redeem client=app redirect=app:cb code=code1 verifier=v1",
		"2 exchange client=svc secret=s code=access2 scopes=read audience=db",
		"3 refresh client=app code=refresh3 scopes=write",
		"3 device client=fox scopes=read,send",
		"4 approve user=bob code=user8",
		"5 poll client=fox code=device7",
		"6 authorize client=once redirect=once:cb challenge=v2 user=cy scopes=read",
		"6 redeem client=once secret=o! redirect=once:cb code=code11 verifier=v2",
		"7 exchange client=fox code=access12 scopes=read audience=log",
		"7 device client=app scopes=write",
		"8 revoke client=fox code=access9",
		"9 introspect code=access5",
	)
}

// grantCase is a server, asks ahead and one more ask.
type grantCase struct {
	server impl.Server
	ahead  []impl.GrantAsk
	last   impl.GrantAsk
}

func (c grantCase) asks() []impl.GrantAsk {
	return append(slices.Clone(c.ahead), c.last)
}

// plainGrantCase is one of each kind whose last ask is done.
func plainGrantCase(kind int) grantCase {
	lines := [][]string{
		impl.AskAuthorize: {"4 authorize client=app redirect=app:cb challenge=v user=ann scopes=read,write"},
		impl.AskRedeem:    {"1 authorize client=once redirect=once:cb challenge=v user=ann scopes=read,write", "4 redeem client=once secret=o! redirect=once:cb code=code1 verifier=v"},
		impl.AskRefresh:   {"1 authorize client=weak redirect=weak:cb challenge=v user=ann scopes=read", "1 redeem client=weak redirect=weak:cb code=code1 verifier=v", "4 refresh client=weak code=refresh3 scopes=read"},
		impl.AskDevice:    {"4 device client=app scopes=read,write"},
		impl.AskApprove:   {"1 device client=app scopes=read,write", "4 approve user=ann code=user2"},
		impl.AskPoll:      {"1 device client=once scopes=read,write", "1 approve user=ann code=user2", "8 poll client=once secret=o! code=device1"},
		impl.AskExchange:  {"1 authorize client=app redirect=app:cb challenge=v user=ann scopes=read,write", "1 redeem client=app redirect=app:cb code=code1 verifier=v", "4 exchange client=svc secret=s code=access2 scopes=read audience=db"},
		impl.AskIntrospect: {"1 authorize client=app redirect=app:cb challenge=v user=ann scopes=read,write", "1 redeem client=app redirect=app:cb code=code1 verifier=v",
			"4 introspect code=access2"},
		impl.AskRevoke: {"1 authorize client=once redirect=once:cb challenge=v user=ann scopes=read,write", "1 redeem client=once secret=o! redirect=once:cb code=code1 verifier=v", "4 revoke client=once secret=o! code=access2"},
	}[kind]
	asks := grantAsksOf(lines...)
	end := len(asks) - 1
	return grantCase{shop(), asks[:end], asks[end]}
}

// grantSpoil brings a case to an Err.
type grantSpoil func(c *grantCase)

// changeClient changes the client of the last ask.
func (c *grantCase) changeClient(change func(own *impl.Client)) {
	c.server = copiedServer(c.server)
	for i := range c.server.Clients {
		if c.server.Clients[i].Id == c.last.Client {
			change(&c.server.Clients[i])
		}
	}
}

// dropKind takes a kind of grants from the client of the last ask.
func dropKind(kind int) grantSpoil {
	return func(c *grantCase) {
		c.changeClient(func(own *impl.Client) {
			own.Kinds = slices.DeleteFunc(own.Kinds, func(k int) bool { return k == kind })
		})
	}
}

func askAhead(lines ...string) grantSpoil {
	return func(c *grantCase) { c.ahead = append(slices.Clone(c.ahead), grantAsksOf(lines...)...) }
}

func insteadOf(at int, line string) grantSpoil {
	return func(c *grantCase) {
		c.ahead = slices.Clone(c.ahead)
		c.ahead[at] = grantAskOf(line)
	}
}

func setLast(field string, told string) grantSpoil {
	return func(c *grantCase) { tellField(&c.last, field, told) }
}

func lastAt(time int) grantSpoil {
	return func(c *grantCase) { c.last.Time = time }
}

// formSpoils bring any ask to ErrForm.
func formSpoils() []grantSpoil {
	long := strings.Repeat("x", 201)
	spoils := []grantSpoil{lastAt(-1), lastAt(lastTime + 1), lastAt(math.MinInt), lastAt(math.MaxInt)}
	for _, field := range []string{"client", "secret", "redirect", "verifier", "user", "code", "audience"} {
		spoils = append(spoils, setLast(field, long))
	}
	spoils = append(spoils, func(c *grantCase) { c.last.Challenge = long })
	for _, scopes := range [][]string{{"b", "a"}, {"a", "a"}, {""}, {"a-b"}, {long}, countedNames(21)} {
		spoils = append(spoils, func(c *grantCase) { c.last.Scopes = scopes })
	}
	return spoils
}

// codeSpoils bring an ask to having a handle that is not one of the sort that it asks for, or is another client's.
func codeSpoils(sort string) []grantSpoil {
	var spoils []grantSpoil
	for _, other := range []string{"code", "device", "user", "access", "refresh"} {
		for number := range 5 {
			if other != sort {
				spoils = append(spoils, setLast("code", other+strconv.Itoa(number)))
			}
		}
	}
	for _, text := range []string{"", "x", "code1-", strings.Repeat("c", 200)} {
		spoils = append(spoils, setLast("code", text))
	}
	own := func(c *grantCase) { c.last.Code = strings.ToUpper(c.last.Code) }
	more := func(c *grantCase) { c.last.Code += "0" }
	less := func(c *grantCase) { c.last.Code = c.last.Code[:max(len(c.last.Code)-1, 0)] }
	return append(spoils, own, more, less)
}

// others bring an ask to being another client's, with its own secret.
func others(ids ...string) []grantSpoil {
	var spoils []grantSpoil
	for _, id := range ids {
		spoils = append(spoils, func(c *grantCase) { c.last.Client, c.last.Secret = id, secretsOfShop[id] })
	}
	return spoils
}

// ownSpoils are, for each kind of ask, ways to come to each Err of its own.
func ownSpoils(kind int) map[int][]grantSpoil {
	scopeless := []grantSpoil{setLast("scopes", ""), setLast("scopes", "admin"), setLast("scopes", "admin,read"), setLast("scopes", "READ"), setLast("scopes", "read,write,zoo")}
	userless := []grantSpoil{setLast("user", ""), setLast("user", "1"), setLast("user", "ann-b"), setLast("user", longName("n")+"n")}
	switch kind {
	case impl.AskAuthorize:
		return map[int][]grantSpoil{
			impl.ErrRedirect:  {setLast("redirect", ""), setLast("redirect", "fox:cb"), setLast("redirect", "app:c"), setLast("redirect", "app:cbb"), setLast("redirect", "APP:CB"), func(c *grantCase) { c.changeClient(func(own *impl.Client) { own.Redirects = nil }) }},
			impl.ErrKind:      {dropKind(impl.GrantCode), func(c *grantCase) { c.changeClient(func(own *impl.Client) { own.Kinds = nil }) }},
			impl.ErrScope:     append(scopeless, func(c *grantCase) { c.changeClient(func(own *impl.Client) { own.Scopes = nil }) }),
			impl.ErrChallenge: {func(c *grantCase) { c.last.Challenge = "" }},
			impl.ErrUser:      userless,
		}
	case impl.AskRedeem:
		return map[int][]grantSpoil{
			impl.ErrCode:     append(codeSpoils("code"), others("app", "fox", "svc", "weak", "idle")...),
			impl.ErrUsed:     {askAhead("2 redeem client=once secret=o! redirect=once:cb code=code1 verifier=v"), askAhead("2 redeem client=once secret=o! code=code1"), askAhead("2 redeem client=once secret=o! redirect=once:cb code=code1 verifier=w", "2 redeem client=once secret=o! code=code1")},
			impl.ErrExpired:  {lastAt(12), lastAt(13), lastAt(lastTime)},
			impl.ErrOther:    {setLast("redirect", ""), setLast("redirect", "app:cb"), setLast("redirect", "once:cb2"), setLast("redirect", "ONCE:CB")},
			impl.ErrVerifier: {setLast("verifier", ""), setLast("verifier", "w"), setLast("verifier", "V"), setLast("verifier", challengeByWords("v")), setLast("verifier", "vv")},
		}
	case impl.AskRefresh:
		return map[int][]grantSpoil{
			impl.ErrToken:   append(codeSpoils("refresh"), others("app", "fox", "svc", "once", "idle")...),
			impl.ErrReuse:   {askAhead("2 refresh client=weak code=refresh3"), askAhead("2 redeem client=weak redirect=weak:cb code=code1 verifier=v"), askAhead("2 revoke client=weak code=refresh3"), askAhead("2 refresh client=weak code=refresh3", "2 revoke client=weak code=refresh5"), askAhead("2 redeem client=weak code=code1")},
			impl.ErrExpired: {lastAt(52), lastAt(53), lastAt(lastTime)},
			impl.ErrScope:   scopeless[1:],
		}
	case impl.AskDevice:
		return map[int][]grantSpoil{
			impl.ErrKind:  {dropKind(impl.GrantDevice), func(c *grantCase) { c.changeClient(func(own *impl.Client) { own.Kinds = nil }) }},
			impl.ErrScope: append(scopeless, func(c *grantCase) { c.changeClient(func(own *impl.Client) { own.Scopes = nil }) }),
		}
	case impl.AskApprove:
		return map[int][]grantSpoil{
			impl.ErrUser: userless,
			impl.ErrCode: append(codeSpoils("user"), askAhead("2 approve user=bob code=user2"), askAhead("2 approve user=bob code=user2 deny"), askAhead("2 approve user=bob code=user2 deny", "3 approve user=cy code=user2"), lastAt(12), lastAt(lastTime)),
		}
	case impl.AskPoll:
		again := grantAsksOf("1 device client=once scopes=read,write", "1 approve user=ann code=user2", "3 poll client=once secret=o! code=device1")
		return map[int][]grantSpoil{
			impl.ErrCode:    append(codeSpoils("device"), others("app", "fox", "svc", "weak", "idle")...),
			impl.ErrUsed:    {func(c *grantCase) { c.ahead = again }, func(c *grantCase) { c.ahead = slices.Concat(again, again[2:]) }},
			impl.ErrExpired: {lastAt(12), lastAt(13), lastAt(lastTime)},
			impl.ErrSlow:    {func(c *grantCase) { c.pollAt(c.last.Time) }, func(c *grantCase) { c.pollAt(c.last.Time - 4) }, func(c *grantCase) { c.pollAt(c.last.Time - 3); c.pollAt(c.last.Time - 2) }},
			impl.ErrDenied:  {insteadOf(1, "1 approve user=ann code=user2 deny")},
			impl.ErrWait:    {insteadOf(1, "1 introspect"), insteadOf(1, "1 approve code=user2"), insteadOf(1, "1 approve user=ann code=device1"), insteadOf(1, "1 approve user=ann code=user1")},
		}
	case impl.AskExchange:
		return map[int][]grantSpoil{
			impl.ErrKind:  {dropKind(impl.GrantExchange), func(c *grantCase) { c.changeClient(func(own *impl.Client) { own.Kinds = []int{1, 2, 3} }) }},
			impl.ErrToken: append(codeSpoils("access"), askAhead("2 revoke client=app code=access2"), askAhead("2 revoke client=app code=refresh3"), askAhead("2 redeem client=app code=code1"), askAhead("2 refresh client=app code=refresh3", "2 refresh client=app code=refresh3"), lastAt(12), lastAt(lastTime)),
			impl.ErrScope: scopeless,
		}
	}
	return nil
}

// pollAt puts a poll ahead of the answer of the user, so that it comes to ErrWait at most.
func (c *grantCase) pollAt(time int) {
	poll := grantAskOf("0 poll client=once secret=o! code=device1")
	poll.Time = time
	c.ahead = slices.Insert(slices.Clone(c.ahead), len(c.ahead)-1, poll)
	c.ahead[len(c.ahead)-1].Time = time
}

// grantSpoils are, for a kind of ask, ways to come to each of its Errs.
func grantSpoils(kind int) map[int][]grantSpoil {
	spoils := ownSpoils(kind)
	if spoils == nil {
		spoils = map[int][]grantSpoil{}
	}
	spoils[impl.ErrForm] = formSpoils()
	spoils[impl.ErrTime] = []grantSpoil{
		func(c *grantCase) { c.lateAhead(1) },
		func(c *grantCase) { c.lateAhead(lastTime) },
	}
	if slices.Contains(errsOfAsks[kind], impl.ErrClient) {
		spoils[impl.ErrClient] = []grantSpoil{setLast("client", ""), setLast("client", "nobody"), setLast("client", "APP"), setLast("client", "ap"), setLast("client", "appp")}
	}
	if slices.Contains(errsOfAsks[kind], impl.ErrSecret) {
		spoils[impl.ErrSecret] = []grantSpoil{
			func(c *grantCase) { c.last.Secret += "x" },
			func(c *grantCase) { c.last.Secret = string(impl.Digest([]byte(c.last.Secret))) },
			func(c *grantCase) { c.last.Client, c.last.Secret = "once", "" },
			func(c *grantCase) { c.last.Client, c.last.Secret = "once", "s" },
			func(c *grantCase) { c.last.Client, c.last.Secret = "app", "o!" },
			func(c *grantCase) { c.last.Client, c.last.Secret = "weak", "w" },
		}
	}
	return spoils
}

// lateAhead puts an ask ahead that says nothing, so much later than the last one, or at the last time of all.
func (c *grantCase) lateAhead(later int) {
	c.last.Time = min(c.last.Time, lastTime-1)
	late := grantAskOf("0 introspect")
	late.Time = min(c.last.Time+later, lastTime)
	c.ahead = append(slices.Clone(c.ahead), late)
}

// drawnShop is the shop with other times and another key.
func drawnShop(from *rand.Rand) impl.Server {
	s := shop()
	s.Key = drawnBytes(from, from.Intn(65))
	s.Short, s.Long = oneOf(from, []int{1, 4, 6, 10, 20, 40}), oneOf(from, []int{1, 6, 10, 30, 50})
	return s
}

// handles are those of a sort that were given, as they were.
func (h servedAsks) handles(sort string) []string {
	var handles []string
	for _, x := range h.done {
		if handle := x.gave(sort); handle != "" {
			handles = append(handles, handle)
		}
	}
	return handles
}

// isFresh says whether a handle may still come to something.
func (h servedAsks) isFresh(sort string, handle string) bool {
	at := h.giver(sort, handle)
	switch sort {
	case "code":
		return !h.wasUsed(handle)
	case "device":
		return !h.wasDone(impl.AskPoll, handle)
	case "user":
		return h.approval(at) < 0
	case "access":
		return h.isLive(handle, h.now())
	}
	return !h.wasDone(impl.AskRefresh, handle) && !h.isEnded(h.root(at))
}

// drawnHandle is most often a fresh one of its sort; the empty text where there is none at all.
func (h servedAsks) drawnHandle(from *rand.Rand, sort string) string {
	handles := h.handles(sort)
	if len(handles) == 0 {
		return ""
	}
	fresh := slices.DeleteFunc(slices.Clone(handles), func(handle string) bool { return !h.isFresh(sort, handle) })
	if len(fresh) > 0 && from.Intn(8) > 0 {
		handles = fresh
	}
	return oneOf(from, handles)
}

// drawnScopes are some of all, at least so many.
func drawnScopes(from *rand.Rand, all []string, least int) []string {
	scopes := drawnNamesOf(from, all, 2)
	if len(scopes) < least {
		return slices.Clone(all)
	}
	return scopes
}

// ownFor has the client of the giver, and its secret.
func (h servedAsks) ownFor(a *impl.GrantAsk, sort string) int {
	at := h.giver(sort, a.Code)
	if at >= 0 {
		a.Client = h.done[at].ask.Client
		a.Secret = secretsOfShop[a.Client]
	}
	return at
}

var drawnVerifiers = []string{"", "v1", "v2"}

// fitFields fills an ask with what it needs to be done, as far as there is anything.
func (h servedAsks) fitFields(from *rand.Rand, a *impl.GrantAsk) {
	switch a.Kind {
	case impl.AskAuthorize:
		a.Client, a.User = oneOf(from, []string{"app", "fox", "once", "weak"}), oneOf(from, []string{"ann", "bob"})
		own := h.client(a.Client)
		a.Redirect, a.Challenge, a.Scopes = oneOf(from, own.Redirects), challengeByWords(oneOf(from, drawnVerifiers)), drawnScopes(from, own.Scopes, 1)
	case impl.AskRedeem:
		a.Code = h.drawnHandle(from, "code")
		if at := h.ownFor(a, "code"); at >= 0 {
			own := h.done[at].ask
			a.Redirect = own.Redirect
			a.Verifier = drawnVerifiers[max(slices.IndexFunc(drawnVerifiers, func(v string) bool { return challengeByWords(v) == own.Challenge }), 0)]
		}
	case impl.AskRefresh:
		a.Code = h.drawnHandle(from, "refresh")
		if at := h.ownFor(a, "refresh"); at >= 0 {
			a.Scopes = drawnScopes(from, h.scopesOfRefresh(at), 0)
		}
	case impl.AskDevice:
		a.Client = oneOf(from, []string{"app", "fox", "once"})
		a.Scopes = drawnScopes(from, h.client(a.Client).Scopes, 1)
	case impl.AskApprove:
		a.Code, a.User, a.Deny = h.drawnHandle(from, "user"), oneOf(from, []string{"ann", "bob"}), from.Intn(4) == 0
	case impl.AskPoll:
		a.Code = h.drawnHandle(from, "device")
		h.ownFor(a, "device")
	case impl.AskExchange:
		a.Code, a.Audience = h.drawnHandle(from, "access"), oneOf(from, []string{"", "db", "log"})
		a.Client = oneOf(from, []string{"fox", "once", "svc"})
		a.Secret = secretsOfShop[a.Client]
		if at := h.giver("access", a.Code); at >= 0 {
			a.Scopes = drawnScopes(from, h.done[at].reply.Scopes, 1)
		}
	case impl.AskIntrospect:
		a.Code = h.drawnHandle(from, "access")
	case impl.AskRevoke:
		sort := oneOf(from, []string{"access", "access", "refresh"})
		a.Code = h.drawnHandle(from, sort)
		h.ownFor(a, sort)
	}
}

var handleSorts = []string{"code", "device", "user", "access", "refresh"}

// spoilFields changes one field of an ask.
func (h servedAsks) spoilFields(from *rand.Rand, a *impl.GrantAsk) {
	switch from.Intn(12) {
	case 0:
		a.Client = oneOf(from, []string{"app", "fox", "idle", "once", "svc", "weak", "", "nobody"})
	case 1:
		a.Client = oneOf(from, []string{"app", "fox", "idle", "idle", "once", "svc", "weak"})
		a.Secret = secretsOfShop[a.Client]
		if own := h.client(a.Client); len(own.Redirects) > 0 {
			a.Redirect = own.Redirects[0]
		}
	case 2:
		a.Secret = oneOf(from, []string{"", "o!", "s", "x"})
	case 3:
		a.Redirect = oneOf(from, []string{"", "app:cb", "app:two", "fox:cb", "once:cb", "weak:cb"})
	case 4:
		a.Challenge, a.Verifier = oneOf(from, []string{"", challengeByWords("v1"), "v1"}), oneOf(from, []string{"", "v1", "v2", challengeByWords("v1")})
	case 5:
		a.User = oneOf(from, []string{"", "cy", "1", "ann b", longName("u")})
	case 6:
		a.Code = h.drawnHandle(from, oneOf(from, handleSorts))
	case 7:
		// A handle that is not given yet, but may be soon.
		a.Code = h.newHandle(oneOf(from, handleSorts), from.Intn(3))
	case 8:
		a.Code = oneOf(from, []string{"", "x", a.Code + "0", strings.ToUpper(a.Code)})
	case 9:
		a.Scopes = oneOf(from, [][]string{nil, {"read"}, {"read", "send", "write"}, {"admin"}, {"read", "zoo"}, {"write", "read"}, {"read", "read"}, {""}, {"a b"}})
	case 10:
		a.Time = oneOf(from, []int{-1, h.now() - 1, 0, h.now() + h.server.Short, h.now() + h.server.Short + 1, h.now() + h.server.Long + 1})
	case 11:
		a.Kind = oneOf(from, []int{-1, 0, 10, 1, 2, 3, 4, 5, 6, 7, 8, 9})
	}
}

func drawnGrantAsk(from *rand.Rand, h servedAsks) impl.GrantAsk {
	kinds := []int{1, 1, 1, 2, 2, 2, 2, 3, 3, 3, 4, 4, 5, 5, 6, 6, 6, 6, 7, 7, 7, 8, 8, 9}
	a := impl.GrantAsk{Kind: oneOf(from, kinds), Time: h.now() + oneOf(from, []int{0, 0, 0, 0, 0, 0, 0, 0, 1, 1, 1, 2, 4, 5})}
	h.fitFields(from, &a)
	for range 2 {
		if from.Intn(8) == 0 {
			h.spoilFields(from, &a)
		}
	}
	return a
}

// drawnServed is a server behind so many drawn asks.
func drawnServed(from *rand.Rand, s impl.Server, many int) servedAsks {
	h := servedAsks{server: s}
	for range many {
		h = h.and(drawnGrantAsk(from, h))
	}
	return h
}
