package tests

import (
	"math"
	"math/rand"
	"regexp"
	"slices"
	"strconv"
	"strings"

	"loop.example/g00036/impl"
)

// plainSessConf is the configuration of the lines that are told by hand.
func plainSessConf() impl.SessConf {
	return impl.SessConf{Key: []byte("k"), Idle: 10, Most: 30}
}

var wordsOfSess = []string{"none", "login", "use", "raise", "logout", "everywhere"}

var wordsOfSessErrs = []string{"done", "form", "past", "unknown", "stolen", "dead", "over"}

// errsOfSess are, for each kind of event, all Errs that may come of it, in the order of the document.
var errsOfSess = map[int][]int{
	impl.SessLogin:     {1, 2},
	impl.SessUse:       {1, 2, 3, 4, 5, 6},
	impl.SessRaise:     {1, 2, 3, 4, 5, 6},
	impl.SessLogout:    {1, 2, 3, 4, 5, 6},
	impl.SessLogoutAll: {1, 2},
}

// kindsWithIds are those of the events that show an Id.
func kindsWithIds() []int {
	return []int{impl.SessUse, impl.SessRaise, impl.SessLogout}
}

var idNumber = regexp.MustCompile(`^[1-9][0-9]*$`)

// idIn is the Id of a number by the plain configuration; another text is itself, and `-` the empty one.
func idIn(text string) string {
	switch {
	case text == "-":
		return ""
	case idNumber.MatchString(text):
		return handleByWords(plainSessConf().Key, "sess", numberOf(text))
	}
	return text
}

// sessEventOf is the event of a text: the Time, the word of the kind, and what is told for it: `1 login ann pc`, `2 use 1 pc`, `3 raise 1 pc`, `4 logout 2 pc`, `5 everywhere ann`.
func sessEventOf(text string) impl.SessEvent {
	parts := strings.Fields(text)
	e := impl.SessEvent{Time: timeIn(parts[0]), Kind: slices.Index(wordsOfSess, parts[1])}
	fields := strings.Fields(fieldsOfSess[e.Kind])
	if len(fields) == 0 || len(fields) != len(parts)-2 {
		panic("no event: " + text)
	}
	for i, field := range fields {
		switch told := parts[2+i]; field {
		case "User":
			e.User = told
		case "Device":
			e.Device = told
		case "Id":
			e.Id = idIn(told)
		}
	}
	return e
}

func sessEventsOf(lines ...string) []impl.SessEvent {
	var events []impl.SessEvent
	for _, line := range lines {
		text, _, _ := strings.Cut(line, " -> ")
		events = append(events, sessEventOf(text))
	}
	return events
}

// idText is the number of an Id of the plain configuration, and a text in quotes for any other.
func idText(id string) string {
	short, _, _ := strings.Cut(id, "-")
	number := strings.TrimPrefix(short, "sess")
	if idNumber.MatchString(number) && idIn(number) == id {
		return number
	}
	return strconv.Quote(id)
}

// sessReplyText tells all that a reply tells: the word of its Err, the number of its Id, its User, its Level.
func sessReplyText(r impl.SessReply) string {
	var parts []string
	if r.Err != 0 {
		parts = append(parts, wordsOfSessErrs[r.Err])
	}
	if r.Id != "" {
		parts = append(parts, idText(r.Id))
	}
	if r.User != "" {
		parts = append(parts, r.User)
	}
	if r.Level != 0 {
		parts = append(parts, strconv.Itoa(r.Level))
	}
	return strings.Join(parts, " ")
}

func sessRepliesText(replies []impl.SessReply) string {
	var texts []string
	for _, r := range replies {
		texts = append(texts, sessReplyText(r))
	}
	return strings.Join(texts, "; ")
}

// sessConfWith is the plain configuration with a change.
func sessConfWith(change func(c *impl.SessConf)) impl.SessConf {
	c := plainSessConf()
	change(&c)
	return c
}

func goodSessConfs() []impl.SessConf {
	good := []impl.SessConf{plainSessConf()}
	for _, length := range []int{0, 1, 16, 63, 64} {
		good = append(good, sessConfWith(func(c *impl.SessConf) { c.Key = make([]byte, length) }))
	}
	for _, time := range []int{1, 2, 29, 31, 999999, 1000000} {
		good = append(good,
			sessConfWith(func(c *impl.SessConf) { c.Idle = time }),
			sessConfWith(func(c *impl.SessConf) { c.Most = time }),
			sessConfWith(func(c *impl.SessConf) { c.Idle, c.Most = time, time }),
		)
	}
	return append(good, impl.SessConf{Idle: 1, Most: 1}, impl.SessConf{Key: []byte{}, Idle: 1000000, Most: 1})
}

// badSessConfs are made of a good one by a change each.
func badSessConfs() []impl.SessConf {
	bad := []impl.SessConf{{}, {Idle: 1}, {Most: 1}}
	for _, length := range []int{65, 66, 200, 20001} {
		bad = append(bad, sessConfWith(func(c *impl.SessConf) { c.Key = make([]byte, length) }))
	}
	for _, time := range []int{math.MinInt, -1000000, -2, -1, 0, 1000001, 1000002, lastTime, math.MaxInt} {
		bad = append(bad,
			sessConfWith(func(c *impl.SessConf) { c.Idle = time }),
			sessConfWith(func(c *impl.SessConf) { c.Most = time }),
			sessConfWith(func(c *impl.SessConf) { c.Idle, c.Most = time, time }),
			// Two that are wrong make nothing right.
			impl.SessConf{Key: make([]byte, 65), Idle: time, Most: 1},
			impl.SessConf{Key: make([]byte, 65), Idle: 1, Most: time},
			impl.SessConf{Key: make([]byte, 65), Idle: time, Most: time},
		)
	}
	return bad
}

// sessDayLines are events by the plain configuration that are all done: they have each kind, and three are signed in behind them.
func sessDayLines() []string {
	return []string{
		"1 login ann pc",
		"2 login bob tv",
		"3 use 1 pc",
		"4 raise 1 pc",
		"5 login ann phone",
		"6 raise 3 pc",
		"6 login cy pc",
		"7 logout 2 tv",
		"8 login dan pc",
		"8 login dan pc",
		"9 everywhere dan",
		"9 use 4 phone",
	}
}

func sessDay() []impl.SessEvent {
	return sessEventsOf(sessDayLines()...)
}

// sessCase is a configuration, events ahead and one more event.
type sessCase struct {
	conf  impl.SessConf
	ahead []impl.SessEvent
	last  impl.SessEvent
}

func (c sessCase) events() []impl.SessEvent {
	return append(slices.Clone(c.ahead), c.last)
}

// plainSessCase is one of each kind whose last event is done.
func plainSessCase(kind int) sessCase {
	last := []string{impl.SessLogin: "4 login ann pc", impl.SessUse: "4 use 1 pc", impl.SessRaise: "4 raise 1 pc", impl.SessLogout: "4 logout 1 pc", impl.SessLogoutAll: "4 everywhere ann"}[kind]
	return sessCase{plainSessConf(), sessEventsOf("1 login ann pc"), sessEventOf(last)}
}

// sessSpoil brings a case to an Err.
type sessSpoil func(c *sessCase)

// behindLogin puts events right behind the login of a case, ahead of all that follows it.
func (c *sessCase) behindLogin(lines ...string) {
	c.ahead = slices.Insert(slices.Clone(c.ahead), 1, sessEventsOf(lines...)...)
}

func sessAhead(lines ...string) sessSpoil {
	return func(c *sessCase) { c.behindLogin(lines...) }
}

// raisedAtFirst makes the first Id an old one, whatever is ahead of the last event.
func raisedAtFirst(many int) sessSpoil {
	var lines []string
	for i := range many {
		lines = append(lines, "1 raise "+strconv.Itoa(1+i)+" pc")
	}
	return sessAhead(lines...)
}

func lastSess(change func(e *impl.SessEvent)) sessSpoil {
	return func(c *sessCase) { change(&c.last) }
}

func lastSessAt(time int) sessSpoil {
	return lastSess(func(e *impl.SessEvent) { e.Time = time })
}

// lateSessAhead puts an event ahead that changes nothing, so much later than the last one, or at the last time of all.
func lateSessAhead(later int) sessSpoil {
	return func(c *sessCase) {
		c.last.Time = min(c.last.Time, lastTime-1)
		late := impl.SessEvent{Kind: impl.SessLogoutAll, User: "nobody", Time: min(c.last.Time+later, lastTime)}
		c.ahead = append(slices.Clip(c.ahead), late)
	}
}

// notNames are texts for a field that is told and has to be a name.
func notNames() []string {
	return append(badWords(), "-", ".", "ann.", "@ann", "a+b", "9", "\x7f", strings.Repeat("n", impl.MaxText), strings.Repeat("n", impl.MaxText+1))
}

// notEmpty are texts for a field of which nothing is told.
func notEmpty() []string {
	return []string{"x", " ", "\x00", "ann", "pc", idIn("1"), strings.Repeat("n", impl.MaxText), strings.Repeat("n", impl.MaxText+1)}
}

// unfitSpoils bring an event of a kind to Err 1.
func unfitSpoils(kind int) []sessSpoil {
	var spoils []sessSpoil
	for _, time := range []int{math.MinInt, -lastTime, -1, lastTime + 1, lastTime + 2, math.MaxInt} {
		spoils = append(spoils, lastSessAt(time))
	}
	for _, other := range []int{math.MinInt, -1, 0, 6, 7, math.MaxInt} {
		spoils = append(spoils, lastSess(func(e *impl.SessEvent) { e.Kind = other }))
	}
	for _, field := range []struct {
		name string
		set  func(e *impl.SessEvent, text string)
	}{
		{"User", func(e *impl.SessEvent, text string) { e.User = text }},
		{"Device", func(e *impl.SessEvent, text string) { e.Device = text }},
		{"Id", func(e *impl.SessEvent, text string) { e.Id = text }},
	} {
		texts := notEmpty()
		switch isTold := strings.Contains(fieldsOfSess[kind], field.name); {
		case isTold && field.name == "Id":
			continue
		case isTold:
			texts = notNames()
		}
		for _, text := range texts {
			spoils = append(spoils, lastSess(func(e *impl.SessEvent) { field.set(e, text) }))
		}
	}
	return spoils
}

// strangeIds are texts that no session of the plain configuration has or had behind a few events.
func strangeIds() []string {
	first := idIn("1")
	ids := []string{"", "x", "sess1", "sess1-", "1", " " + first, first + " ", first + "0", first[:len(first)-1], strings.ToUpper(first), strings.Replace(first, "1", "01", 1), idIn("77"), idIn("200"), idIn("201")}
	for _, kind := range []string{"ses", "sess_", "Sess", "code", "access"} {
		ids = append(ids, handleByWords([]byte("k"), kind, 1))
	}
	ids = append(ids, handleByWords([]byte("l"), "sess", 1), handleByWords(nil, "sess", 1))
	for _, length := range []int{1, impl.MaxText - 1, impl.MaxText, impl.MaxText + 1, 9000} {
		ids = append(ids, strings.Repeat("s", length), strings.Repeat("\xff", length))
	}
	return ids
}

// strangeIdSpoils bring an event that shows an Id to Err 3.
func strangeIdSpoils() []sessSpoil {
	var spoils []sessSpoil
	for _, id := range strangeIds() {
		spoils = append(spoils, lastSess(func(e *impl.SessEvent) { e.Id = id }))
	}
	return spoils
}

// stolenSpoils show an old Id, or bring the event to another device; some do both.
func stolenSpoils() []sessSpoil {
	spoils := []sessSpoil{raisedAtFirst(1), raisedAtFirst(2), raisedAtFirst(9)}
	for _, device := range []string{"tv", "p", "pcc", "PC", "_pc", "ann", longName("d")} {
		on := lastSess(func(e *impl.SessEvent) { e.Device = device })
		spoils = append(spoils, on, func(c *sessCase) { raisedAtFirst(1)(c); on(c) })
	}
	return spoils
}

func deadSpoils() []sessSpoil {
	return []sessSpoil{
		sessAhead("1 logout 1 pc"), sessAhead("1 everywhere ann"), sessAhead("1 use 1 tv"), sessAhead("1 raise 1 tv"), sessAhead("1 logout 1 tv"),
		sessAhead("1 logout 1 pc", "1 everywhere ann"), sessAhead("1 everywhere ann", "1 use 1 pc"), sessAhead("1 use 1 tv", "1 use 1 tv"), sessAhead("1 everywhere ann", "1 login ann pc"),
	}
}

func overSpoils() []sessSpoil {
	walk := func(times ...int) sessSpoil {
		return func(c *sessCase) {
			for _, time := range times {
				use := sessEventOf("0 use 1 pc")
				use.Time = time
				c.ahead = append(slices.Clip(c.ahead), use)
			}
			c.last.Time = 32
		}
	}
	return []sessSpoil{lastSessAt(12), lastSessAt(13), lastSessAt(32), lastSessAt(lastTime), walk(11, 21, 31), walk(11, 21, 30), walk(10, 20, 30), walk(5, 10, 15, 20, 25), walk(11, 22), walk(2)}
}

// sessSpoils are, for a kind of event, ways to come to each of its Errs.
func sessSpoils(kind int) map[int][]sessSpoil {
	spoils := map[int][]sessSpoil{1: unfitSpoils(kind), 2: {lateSessAhead(1), lateSessAhead(2), lateSessAhead(lastTime)}}
	if slices.Contains(kindsWithIds(), kind) {
		spoils[3], spoils[4], spoils[5], spoils[6] = strangeIdSpoils(), stolenSpoils(), deadSpoils(), overSpoils()
	}
	return spoils
}

// drawnSessConf has short times, so that much is over soon, or long ones.
func drawnSessConf(from *rand.Rand) impl.SessConf {
	return impl.SessConf{Key: drawnBytes(from, from.Intn(65)), Idle: oneOf(from, []int{1, 3, 8, 20, 1000000}), Most: oneOf(from, []int{1, 10, 25, 60, 1000000})}
}

// ids are all that a session has or had, the last one last.
func (h sessStory) ids(login int) []string {
	var ids []string
	for _, x := range h.uses(login) {
		if x.isDone(impl.SessLogin, impl.SessRaise) {
			ids = append(ids, x.reply.Id)
		}
	}
	return ids
}

// drawnLogin is most often that of a session that is signed in; -1 where there is none at all.
func (h sessStory) drawnLogin(from *rand.Rand) int {
	logins := h.logins()
	if len(logins) == 0 {
		return -1
	}
	signedIn := slices.DeleteFunc(slices.Clone(logins), func(login int) bool { return h.isDead(login) || h.isOver(login, h.now()) })
	if len(signedIn) > 0 && from.Intn(8) > 0 {
		logins = signedIn
	}
	return oneOf(from, logins)
}

var drawnUsers, drawnDevices = []string{"ann", "bob", "cy"}, []string{"pc", "phone", "tv"}

// spoilSess changes one thing of an event.
func (h sessStory) spoilSess(from *rand.Rand, e *impl.SessEvent) {
	switch from.Intn(9) {
	case 0:
		e.Device = oneOf(from, drawnDevices)
	case 1, 2:
		// An old Id, most often.
		if login := h.loginOf(e.Id); login >= 0 {
			e.Id = oneOf(from, h.ids(login))
		}
	case 3:
		e.Id = oneOf(from, []string{"", "x", e.Id + "0", strings.ToUpper(e.Id), h.newId()})
	case 4:
		e.User = oneOf(from, []string{"", "ann", "1", longName("u")})
	case 5:
		e.Time = oneOf(from, []int{-1, h.now() - 1, lastTime + 1, h.now() + h.conf.Idle + 1})
	case 6:
		e.Kind = oneOf(from, []int{-1, 0, 6, 1, 2, 3, 4, 5})
	case 7:
		e.Device = oneOf(from, []string{"", "a b", longName("d")})
	case 8:
		// The time up to which a session is just not over, or one more.
		if login := h.loginOf(e.Id); login >= 0 {
			e.Time = max(h.now(), oneOf(from, []int{h.lastUse(login) + h.conf.Idle, h.done[login].event.Time + h.conf.Most})+from.Intn(2))
		}
	}
}

func drawnSessEvent(from *rand.Rand, h sessStory) impl.SessEvent {
	kinds := []int{1, 1, 1, 1, 1, 2, 2, 2, 2, 2, 3, 3, 3, 3, 3, 3, 4, 5}
	e := impl.SessEvent{Kind: oneOf(from, kinds), Time: h.now() + oneOf(from, []int{0, 0, 0, 0, 0, 1, 1, 1, 2, 5})}
	switch e.Kind {
	case impl.SessLogin:
		e.User, e.Device = oneOf(from, drawnUsers), oneOf(from, drawnDevices)
	case impl.SessLogoutAll:
		e.User = oneOf(from, append(drawnUsers, "nobody"))
	default:
		e.Device = oneOf(from, drawnDevices)
		if login := h.drawnLogin(from); login >= 0 {
			e.Id, e.Device = h.tellOf(login).Id, h.done[login].event.Device
		}
	}
	if from.Intn(5) == 0 {
		h.spoilSess(from, &e)
	}
	return e
}

// drawnSessStory is a configuration behind so many drawn events.
func drawnSessStory(from *rand.Rand, c impl.SessConf, many int) sessStory {
	h := sessStory{conf: c}
	for range many {
		h = h.and(drawnSessEvent(from, h))
	}
	return h
}
