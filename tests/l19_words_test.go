package tests

import (
	"slices"
	"strings"

	"loop.example/g00036/impl"
)

// What the document says of chapter 19, worked out in another way than the program does: nothing is kept but the events and their replies. Whose an Id is, whether that session is dead and when it was used last is asked of these each time anew, and an Err is the first that holds of all of them, which are all looked at.

func goodSessConfByWords(c impl.SessConf) bool {
	return len(c.Key) < 65 && isBetween(c.Idle, 1, 1000000) && isBetween(c.Most, 1, 1000000)
}

// fieldsOfSess are what is told for each kind of event.
var fieldsOfSess = map[int]string{
	impl.SessLogin:     "User Device",
	impl.SessUse:       "Id Device",
	impl.SessRaise:     "Id Device",
	impl.SessLogout:    "Id Device",
	impl.SessLogoutAll: "User",
}

func isUnfitByWords(e impl.SessEvent) bool {
	told, known := fieldsOfSess[e.Kind]
	for field, text := range map[string]string{"User": e.User, "Device": e.Device, "Id": e.Id} {
		isTold := strings.Contains(told, field)
		if !isTold && text != "" || isTold && field != "Id" && !changeName.MatchString(text) {
			return true
		}
	}
	return !known || !isTimeByWords(e.Time)
}

// doneSess is an event and what was replied.
type doneSess struct {
	event impl.SessEvent
	reply impl.SessReply
}

// sessStory is a configuration, and all that was done by it so far.
type sessStory struct {
	conf impl.SessConf
	done []doneSess
}

// isDone says whether it was done, and of one of the kinds.
func (x doneSess) isDone(kinds ...int) bool {
	return x.reply.Err == 0 && slices.Contains(kinds, x.event.Kind)
}

// now is the greatest time that counted.
func (h sessStory) now() int {
	now := 0
	for _, x := range h.done {
		if x.reply.Err != 1 && x.reply.Err != 2 {
			now = max(now, x.event.Time)
		}
	}
	return now
}

// newId is the Id that is given next: so many were given ahead of it.
func (h sessStory) newId() string {
	number := 1
	for _, x := range h.done {
		if x.isDone(impl.SessLogin, impl.SessRaise) {
			number++
		}
	}
	return handleByWords(h.conf.Key, "sess", number)
}

// giver is the number of the event that gave an Id, and -1 where there is none.
func (h sessStory) giver(id string) int {
	return slices.IndexFunc(h.done, func(x doneSess) bool {
		return x.isDone(impl.SessLogin, impl.SessRaise) && x.reply.Id == id
	})
}

// loginOf is the number of the login to which an Id goes back, and -1 where there is none. A session is told by the number of its login.
func (h sessStory) loginOf(id string) int {
	at := h.giver(id)
	for at >= 0 && h.done[at].event.Kind == impl.SessRaise {
		at = h.giver(h.done[at].event.Id)
	}
	return at
}

// uses are what was done with a session, its login ahead.
func (h sessStory) uses(login int) []doneSess {
	uses := []doneSess{h.done[login]}
	for _, x := range h.done {
		if x.isDone(impl.SessUse, impl.SessRaise, impl.SessLogout) && h.loginOf(x.event.Id) == login {
			uses = append(uses, x)
		}
	}
	return uses
}

// wasReplaced says whether a new Id was given in place of this one.
func (h sessStory) wasReplaced(id string) bool {
	return slices.ContainsFunc(h.done, func(x doneSess) bool { return x.isDone(impl.SessRaise) && x.event.Id == id })
}

func (h sessStory) isDead(login int) bool {
	for i, x := range h.done {
		ofIt := (x.reply.Err == 4 || x.isDone(impl.SessLogout)) && h.loginOf(x.event.Id) == login
		ofAll := i > login && x.isDone(impl.SessLogoutAll) && x.event.User == h.done[login].event.User
		if ofIt || ofAll {
			return true
		}
	}
	return false
}

func (h sessStory) lastUse(login int) int {
	last := 0
	for _, x := range h.uses(login) {
		last = max(last, x.event.Time)
	}
	return last
}

func (h sessStory) isOver(login int, time int) bool {
	return time-h.lastUse(login) > h.conf.Idle || time-h.done[login].event.Time > h.conf.Most
}

// tellOf tells a session behind all that was done with it: the last Id of it, its User, and a Level more for each that it was raised by.
func (h sessStory) tellOf(login int) impl.SessReply {
	r := impl.SessReply{User: h.done[login].event.User, Level: 1}
	for _, x := range h.uses(login) {
		r.Id = x.reply.Id
		if x.event.Kind == impl.SessRaise && r.Level < 9 {
			r.Level++
		}
	}
	return r
}

// errs are those that hold of an event, each with whether it does, in the order of the document.
func (h sessStory) errs(e impl.SessEvent) []any {
	tests := []any{1, isUnfitByWords(e), 2, e.Time < h.now()}
	if !strings.Contains(fieldsOfSess[e.Kind], "Id") {
		return tests
	}
	login := h.loginOf(e.Id)
	if login < 0 {
		return append(tests, 3, true)
	}
	return append(tests, 4, h.wasReplaced(e.Id) || e.Device != h.done[login].event.Device, 5, h.isDead(login), 6, h.isOver(login, e.Time))
}

// reply is the one to an event that has no Err.
func (h sessStory) reply(e impl.SessEvent) impl.SessReply {
	switch e.Kind {
	case impl.SessLogin:
		return impl.SessReply{Id: h.newId(), User: e.User, Level: 1}
	case impl.SessLogoutAll:
		return impl.SessReply{User: e.User}
	}
	r := h.tellOf(h.loginOf(e.Id))
	if e.Kind == impl.SessRaise {
		r.Id, r.Level = h.newId(), min(9, r.Level+1)
	}
	return r
}

// and is the story with one more event.
func (h sessStory) and(e impl.SessEvent) sessStory {
	reply := impl.SessReply{Err: first(h.errs(e)...)}
	if reply.Err == 0 {
		reply = h.reply(e)
	}
	return sessStory{h.conf, append(slices.Clip(h.done), doneSess{e, reply})}
}

func (h sessStory) events() []impl.SessEvent {
	var events []impl.SessEvent
	for _, x := range h.done {
		events = append(events, x.event)
	}
	return events
}

func (h sessStory) replies() []impl.SessReply {
	var replies []impl.SessReply
	for _, x := range h.done {
		replies = append(replies, x.reply)
	}
	return replies
}

// logins are the numbers of all logins that were done.
func (h sessStory) logins() []int {
	var logins []int
	for i, x := range h.done {
		if x.isDone(impl.SessLogin) {
			logins = append(logins, i)
		}
	}
	return logins
}

// signedIn are the sessions at a time, which is not asked for.
func (h sessStory) signedIn(time int) []impl.SessReply {
	var told []impl.SessReply
	for _, login := range h.logins() {
		if !h.isDead(login) && !h.isOver(login, time) {
			told = append(told, h.tellOf(login))
		}
	}
	return told
}

func sessionsByWords(c impl.SessConf, events []impl.SessEvent) (sessStory, bool) {
	h := sessStory{conf: c}
	if !goodSessConfByWords(c) || len(events) > 200 {
		return h, false
	}
	for _, e := range events {
		h = h.and(e)
	}
	return h, true
}

func signedInByWords(c impl.SessConf, events []impl.SessEvent, time int) []impl.SessReply {
	h, ok := sessionsByWords(c, events)
	if !ok || time < h.now() {
		return nil
	}
	return h.signedIn(time)
}
