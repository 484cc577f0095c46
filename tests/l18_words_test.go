package tests

import (
	"fmt"
	"regexp"
	"slices"

	"loop.example/g00036/impl"
)

// What the document says of chapter 18, worked out in another way than the program does: nothing is kept but the asks and their replies. What was used, ended, revoked, approved or polled is asked of these each time anew, and an Err is the first that holds of all those of its kind, which are all looked at.

var redirectForm = regexp.MustCompile(`^[ -~]{1,200}$`)

func goodClientByWords(c impl.Client) bool {
	for _, redirect := range c.Redirects {
		if !redirectForm.MatchString(redirect) {
			return false
		}
	}
	for _, kind := range c.Kinds {
		if !slices.Contains(allKinds(), kind) {
			return false
		}
	}
	return idForm.MatchString(c.Id) && slices.Contains([]int{0, 16}, len(c.Secret)) && len(c.Redirects) < 6 && len(c.Scopes) < 21 && areNamesByWords(c.Scopes) && len(c.Kinds) < 5
}

func goodServerByWords(s impl.Server) bool {
	var ids []string
	for _, c := range s.Clients {
		if !goodClientByWords(c) {
			return false
		}
		ids = append(ids, c.Id)
	}
	return len(ids) < 21 && risesByWords(ids) && len(s.Key) < 65 && isBetween(s.Short, 1, 1000000) && isBetween(s.Long, 1, 1000000)
}

func challengeByWords(verifier string) string {
	if len(verifier) > 200 {
		return ""
	}
	return armorByWords(impl.Digest([]byte(verifier)))
}

func handleByWords(key []byte, kind string, number int) string {
	if len(key) > 64 || !changeName.MatchString(kind) || !isBetween(number, 1, 1000000) {
		return ""
	}
	ahead := fmt.Sprint(kind, number)
	return ahead + "-" + armorByWords(impl.Mac(key, []byte(ahead))[:10])
}

// servedAsk is an ask and what was replied.
type servedAsk struct {
	ask   impl.GrantAsk
	reply impl.GrantReply
}

// servedAsks are a server, and all that it was asked so far.
type servedAsks struct {
	server impl.Server
	done   []servedAsk
}

// isDone says whether an ask of that kind was done.
func (x servedAsk) isDone(kind int) bool {
	return x.ask.Kind == kind && x.reply.Err == 0
}

// gave is the handle of that sort which the ask gave, and the empty text where it gave none.
func (x servedAsk) gave(sort string) string {
	switch {
	case sort == "code" && x.ask.Kind == impl.AskAuthorize, sort == "device" && x.ask.Kind == impl.AskDevice:
		return x.reply.Code
	case sort == "user" && x.ask.Kind == impl.AskDevice, sort == "refresh" && x.ask.Kind != impl.AskDevice:
		return x.reply.Refresh
	case sort == "access":
		return x.reply.Access
	}
	return ""
}

// now is the greatest time that counted.
func (h servedAsks) now() int {
	now := 0
	for _, x := range h.done {
		if x.reply.Err != impl.ErrForm && x.reply.Err != impl.ErrTime {
			now = max(now, x.ask.Time)
		}
	}
	return now
}

// given counts the handles in the replies.
func (h servedAsks) given() int {
	many := 0
	for _, x := range h.done {
		for _, handle := range []string{x.reply.Code, x.reply.Access, x.reply.Refresh} {
			if handle != "" {
				many++
			}
		}
	}
	return many
}

// newHandle is the handle that is next but so many.
func (h servedAsks) newHandle(kind string, but int) string {
	return handleByWords(h.server.Key, kind, h.given()+1+but)
}

// giver is the number of the ask that gave the handle, and -1 where it is none of that sort.
func (h servedAsks) giver(sort string, handle string) int {
	return slices.IndexFunc(h.done, func(x servedAsk) bool { return handle != "" && x.gave(sort) == handle })
}

// giverFor is that of an ask by the client of the giver alone.
func (h servedAsks) giverFor(sort string, a impl.GrantAsk) int {
	at := h.giver(sort, a.Code)
	if at >= 0 && h.done[at].ask.Client != a.Client {
		return -1
	}
	return at
}

// before is the ask that gave what this one turned into something else.
func (h servedAsks) before(at int) int {
	sort := map[int]string{impl.AskRedeem: "code", impl.AskPoll: "device", impl.AskRefresh: "refresh", impl.AskExchange: "access"}[h.done[at].ask.Kind]
	return h.giver(sort, h.done[at].ask.Code)
}

// root is the ask that began the grant of what this one gave.
func (h servedAsks) root(at int) int {
	for h.before(at) >= 0 {
		at = h.before(at)
	}
	return at
}

// some says whether there is an ask of that kind with one of those Errs for which all else holds, too.
func (h servedAsks) some(kind int, errs []int, also func(x servedAsk) bool) bool {
	return slices.ContainsFunc(h.done, func(x servedAsk) bool {
		return x.ask.Kind == kind && slices.Contains(errs, x.reply.Err) && also(x)
	})
}

// revokes are the asks that gave what was revoked, for each revoke of a handle of that sort. Who knows a handle ahead of its being given revokes nothing.
func (h servedAsks) revokes(sort string) []int {
	var givers []int
	for i, x := range h.done {
		if at := h.giverFor(sort, x.ask); x.isDone(impl.AskRevoke) && isBetween(at, 0, i) {
			givers = append(givers, at)
		}
	}
	return givers
}

// isEnded: a grant, told by the ask that began it, ends by a code or a refresh that is used again, and by a refresh that is revoked.
func (h servedAsks) isEnded(root int) bool {
	goesBack := func(at int) bool { return at >= 0 && h.root(at) == root }
	return h.some(impl.AskRedeem, []int{impl.ErrUsed}, func(x servedAsk) bool { return goesBack(h.giver("code", x.ask.Code)) }) ||
		h.some(impl.AskRefresh, []int{impl.ErrReuse}, func(x servedAsk) bool { return goesBack(h.giver("refresh", x.ask.Code)) }) ||
		slices.ContainsFunc(h.revokes("refresh"), goesBack)
}

// until is the last time of the access that an ask gave: no exchange reaches beyond any of those that it comes of.
func (h servedAsks) until(at int) int {
	until := h.done[at].ask.Time + h.server.Short
	for h.done[at].ask.Kind == impl.AskExchange {
		at = h.before(at)
		until = min(until, h.done[at].ask.Time+h.server.Short)
	}
	return until
}

func (h servedAsks) isLive(handle string, time int) bool {
	at := h.giver("access", handle)
	return at >= 0 && !slices.Contains(h.revokes("access"), at) && !h.isEnded(h.root(at)) && time <= h.until(at)
}

// wasUsed: a code is used by each redeem that came as far.
func (h servedAsks) wasUsed(code string) bool {
	errs := []int{0, impl.ErrUsed, impl.ErrExpired, impl.ErrOther, impl.ErrVerifier}
	return h.some(impl.AskRedeem, errs, func(x servedAsk) bool { return x.ask.Code == code })
}

func (h servedAsks) wasDone(kind int, code string) bool {
	return h.some(kind, []int{0}, func(x servedAsk) bool { return x.ask.Code == code })
}

// approval is the ask by which a device was approved or denied, and -1 where there is none.
func (h servedAsks) approval(device int) int {
	return slices.IndexFunc(h.done, func(x servedAsk) bool {
		return x.isDone(impl.AskApprove) && x.ask.Code == h.done[device].reply.Refresh
	})
}

// lastPoll is the time of the last poll that was not refused ahead of the pause; false where there is none.
func (h servedAsks) lastPoll(device string) (int, bool) {
	for i := len(h.done) - 1; i >= 0; i-- {
		x := h.done[i]
		if x.ask.Kind == impl.AskPoll && x.ask.Code == device && slices.Contains([]int{0, impl.ErrSlow, impl.ErrDenied, impl.ErrWait}, x.reply.Err) {
			return x.ask.Time, true
		}
	}
	return 0, false
}

func (h servedAsks) client(id string) impl.Client {
	for _, c := range h.server.Clients {
		if c.Id == id {
			return c
		}
	}
	return impl.Client{}
}

func isFormlessByWords(a impl.GrantAsk) bool {
	longest := 0
	for _, text := range []string{a.Client, a.Secret, a.Redirect, a.Challenge, a.Verifier, a.User, a.Code, a.Audience} {
		longest = max(longest, len(text))
	}
	return !isBetween(a.Kind, 1, 9) || !isTimeByWords(a.Time) || longest > 200 || len(a.Scopes) > 20 || !areNamesByWords(a.Scopes)
}

func isRightSecret(c impl.Client, secret string) bool {
	if len(c.Secret) == 0 {
		return secret == ""
	}
	// A longer one is no text of an ask that has its form: there is nothing to be worked out of it.
	return len(secret) <= 200 && string(impl.Digest([]byte(secret))) == string(c.Secret)
}

// errs are those that hold of an ask, each with whether it does, in the order of the document.
func (h servedAsks) errs(a impl.GrantAsk) []any {
	c := h.client(a.Client)
	tests := []any{impl.ErrForm, isFormlessByWords(a), impl.ErrTime, a.Time < h.now()}
	if a.Kind != impl.AskApprove && a.Kind != impl.AskIntrospect {
		tests = append(tests, impl.ErrClient, c.Id == "")
	}
	if slices.Contains([]int{impl.AskRedeem, impl.AskRefresh, impl.AskPoll, impl.AskExchange, impl.AskRevoke}, a.Kind) {
		tests = append(tests, impl.ErrSecret, !isRightSecret(c, a.Secret))
	}
	switch a.Kind {
	case impl.AskAuthorize, impl.AskDevice:
		return append(tests, h.errsOfBeginning(a, c)...)
	case impl.AskRedeem:
		return append(tests, h.errsOfRedeem(a)...)
	case impl.AskRefresh:
		return append(tests, h.errsOfRefresh(a)...)
	case impl.AskApprove:
		at := h.giver("user", a.Code)
		return append(tests, impl.ErrUser, !changeName.MatchString(a.User), impl.ErrCode, at < 0 || h.approval(at) >= 0 || a.Time > h.done[at].ask.Time+h.server.Short)
	case impl.AskPoll:
		return append(tests, h.errsOfPoll(a)...)
	case impl.AskExchange:
		at := h.giver("access", a.Code)
		lacksScope := len(a.Scopes) == 0 || at >= 0 && !areAllIn(a.Scopes, h.done[at].reply.Scopes)
		return append(tests, impl.ErrKind, !slices.Contains(c.Kinds, 4), impl.ErrToken, !h.isLive(a.Code, a.Time), impl.ErrScope, lacksScope)
	}
	return tests
}

func (h servedAsks) errsOfBeginning(a impl.GrantAsk, c impl.Client) []any {
	lacksScope := len(a.Scopes) == 0 || !areAllIn(a.Scopes, c.Scopes)
	if a.Kind == impl.AskDevice {
		return []any{impl.ErrKind, !slices.Contains(c.Kinds, 3), impl.ErrScope, lacksScope}
	}
	return []any{
		impl.ErrRedirect, !slices.Contains(c.Redirects, a.Redirect), impl.ErrKind, !slices.Contains(c.Kinds, 1), impl.ErrScope, lacksScope,
		impl.ErrChallenge, len(a.Challenge) == 0, impl.ErrUser, !changeName.MatchString(a.User),
	}
}

func (h servedAsks) errsOfRedeem(a impl.GrantAsk) []any {
	at := h.giverFor("code", a)
	if at < 0 {
		return []any{impl.ErrCode, true}
	}
	own := h.done[at].ask
	return []any{impl.ErrUsed, h.wasUsed(a.Code), impl.ErrExpired, a.Time-own.Time > h.server.Short, impl.ErrOther, a.Redirect != own.Redirect, impl.ErrVerifier, challengeByWords(a.Verifier) != own.Challenge}
}

func (h servedAsks) errsOfRefresh(a impl.GrantAsk) []any {
	at := h.giverFor("refresh", a)
	if at < 0 {
		return []any{impl.ErrToken, true}
	}
	return []any{
		impl.ErrReuse, h.wasDone(impl.AskRefresh, a.Code) || h.isEnded(h.root(at)), impl.ErrExpired, a.Time-h.done[at].ask.Time > h.server.Long,
		impl.ErrScope, !areAllIn(a.Scopes, h.scopesOfRefresh(at)),
	}
}

func (h servedAsks) errsOfPoll(a impl.GrantAsk) []any {
	at := h.giverFor("device", a)
	if at < 0 {
		return []any{impl.ErrCode, true}
	}
	last, polled := h.lastPoll(a.Code)
	approval := h.approval(at)
	return []any{
		impl.ErrUsed, h.wasDone(impl.AskPoll, a.Code), impl.ErrExpired, a.Time-h.done[at].ask.Time > h.server.Short, impl.ErrSlow, polled && a.Time-last < 5,
		impl.ErrDenied, approval >= 0 && h.done[approval].ask.Deny, impl.ErrWait, approval < 0,
	}
}

// scopesOfRefresh are those of the one that it came of, and at first those that were told with it.
func (h servedAsks) scopesOfRefresh(at int) []string {
	for h.done[at].ask.Kind == impl.AskRefresh {
		at = h.before(at)
	}
	return h.done[at].reply.Scopes
}

// tokens is the reply with the first tokens of a grant.
func (h servedAsks) tokens(id string, user string, scopes []string) impl.GrantReply {
	r := impl.GrantReply{Access: h.newHandle("access", 0), User: user, Scopes: scopes}
	if slices.Contains(h.client(id).Kinds, 2) {
		r.Refresh = h.newHandle("refresh", 1)
	}
	return r
}

// reply is the one to an ask that has no Err.
func (h servedAsks) reply(a impl.GrantAsk) impl.GrantReply {
	switch a.Kind {
	case impl.AskAuthorize:
		return impl.GrantReply{Code: h.newHandle("code", 0)}
	case impl.AskRedeem:
		own := h.done[h.giver("code", a.Code)].ask
		return h.tokens(a.Client, own.User, own.Scopes)
	case impl.AskRefresh:
		at := h.giver("refresh", a.Code)
		r := impl.GrantReply{Access: h.newHandle("access", 0), Refresh: h.newHandle("refresh", 1), User: h.done[at].reply.User, Scopes: a.Scopes}
		if len(a.Scopes) == 0 {
			r.Scopes = h.scopesOfRefresh(at)
		}
		return r
	case impl.AskDevice:
		return impl.GrantReply{Code: h.newHandle("device", 0), Refresh: h.newHandle("user", 1)}
	case impl.AskPoll:
		at := h.giver("device", a.Code)
		return h.tokens(a.Client, h.done[h.approval(at)].ask.User, h.done[at].ask.Scopes)
	case impl.AskExchange:
		return impl.GrantReply{Access: h.newHandle("access", 0), User: h.done[h.giver("access", a.Code)].reply.User, Scopes: a.Scopes}
	case impl.AskIntrospect:
		if h.isLive(a.Code, a.Time) {
			x := h.done[h.giver("access", a.Code)]
			return impl.GrantReply{Active: true, User: x.reply.User, Client: x.ask.Client, Scopes: x.reply.Scopes}
		}
	}
	return impl.GrantReply{}
}

// and is the server behind one more ask.
func (h servedAsks) and(a impl.GrantAsk) servedAsks {
	reply := impl.GrantReply{Err: first(h.errs(a)...)}
	if reply.Err == 0 {
		reply = h.reply(a)
	}
	return servedAsks{h.server, append(slices.Clip(h.done), servedAsk{a, reply})}
}

func (h servedAsks) replies() []impl.GrantReply {
	var replies []impl.GrantReply
	for _, x := range h.done {
		replies = append(replies, x.reply)
	}
	return replies
}

func (h servedAsks) asks() []impl.GrantAsk {
	var asks []impl.GrantAsk
	for _, x := range h.done {
		asks = append(asks, x.ask)
	}
	return asks
}

func servedByWords(s impl.Server, asks []impl.GrantAsk) (servedAsks, bool) {
	h := servedAsks{server: s}
	if !goodServerByWords(s) || len(asks) > 100 {
		return h, false
	}
	for _, a := range asks {
		h = h.and(a)
	}
	return h, true
}

// live are the accesses that are live at a time, which is not asked for.
func (h servedAsks) live(time int) []impl.LiveToken {
	var tokens []impl.LiveToken
	for at, x := range h.done {
		if h.isLive(x.reply.Access, time) {
			token := impl.LiveToken{Handle: x.reply.Access, User: x.reply.User, Client: x.ask.Client, Scopes: x.reply.Scopes, Until: h.until(at)}
			if x.ask.Kind == impl.AskExchange {
				token.Audience = x.ask.Audience
			}
			tokens = append(tokens, token)
		}
	}
	return tokens
}

func liveByWords(s impl.Server, asks []impl.GrantAsk, time int) []impl.LiveToken {
	h, ok := servedByWords(s, asks)
	if !ok || time < h.now() {
		return nil
	}
	return h.live(time)
}

func sameReply(a impl.GrantReply, b impl.GrantReply) bool {
	same := slices.Equal(a.Scopes, b.Scopes)
	return same && a.Err == b.Err && a.Code == b.Code && a.Access == b.Access && a.Refresh == b.Refresh && a.User == b.User && a.Client == b.Client && a.Active == b.Active
}

func sameReplies(a []impl.GrantReply, b []impl.GrantReply) bool {
	return slices.EqualFunc(a, b, sameReply)
}

func sameLive(a []impl.LiveToken, b []impl.LiveToken) bool {
	return slices.EqualFunc(a, b, func(x impl.LiveToken, y impl.LiveToken) bool {
		return x.Handle == y.Handle && x.User == y.User && x.Client == y.Client && slices.Equal(x.Scopes, y.Scopes) && x.Audience == y.Audience && x.Until == y.Until
	})
}
