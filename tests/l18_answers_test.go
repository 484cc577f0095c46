package tests

import (
	"math"
	"reflect"
	"slices"
	"strconv"
	"strings"
	"sync"
	"testing"

	"loop.example/g00036/impl"
)

// grantArguments are all that the functions of the chapter take.
type grantArguments struct {
	server   impl.Server
	asks     []impl.GrantAsk
	time     int
	verifier string
	key      []byte
	kind     string
	number   int
}

func plainGrantArguments() grantArguments {
	return grantArguments{server: shop(), asks: story(), time: 9, verifier: "v", key: []byte("key"), kind: "code", number: 7}
}

// askWords holds all functions of the chapter against the words.
func (a grantArguments) askWords(t *testing.T, what string) {
	t.Helper()
	before := t.Failed()
	askGoodServer(t, a.server)
	askRun(t, a.server, a.asks)
	askLive(t, a.server, a.asks, a.time)
	askChallenge(t, a.verifier)
	askHandle(t, a.key, a.kind, a.number)
	if t.Failed() && !before {
		t.Errorf("first with %.200s", what)
	}
}

func TestPlainGrantArguments(t *testing.T) {
	a := plainGrantArguments()
	a.askWords(t, "the plain arguments")
	r := a.ask()
	if len(r.replies) != 13 || len(r.live) != 5 || !r.good || slices.Contains(r.texts[:], "") {
		t.Errorf("the plain arguments tell too little: %s", r.told())
	}
	for i, reply := range r.replies {
		if reply.Err != 0 {
			t.Errorf("ask %d has %d", i, reply.Err)
		}
	}
}

func oddGrantTexts() []string {
	var texts []string
	for i, text := range oddTexts() {
		if i%25 == 0 {
			texts = append(texts, text)
		}
	}
	texts = append(append(texts, badWords()...), badIds()...)
	for _, length := range []int{29, 30, 31, 39, 40, 41, 63, 64, 65, 199, 200, 201, 20000, 20001, 100000} {
		texts = append(texts, strings.Repeat("w", length), strings.Repeat("\xff", length))
	}
	for _, short := range []string{"code1", "access2", "refresh3", "device7", "user8", "access9", "refresh10", "access14"} {
		texts = append(texts, short, handleIn(short))
	}
	return append(texts, "app", "fox", "once", "svc", "zoo", "ann", "bob", "read", "write", "s", "o!", "v1", "v2", "app:cb", "once:cb", challengeByWords("v1"))
}

func TestGrantsAnswerAtAnyText(t *testing.T) {
	for _, text := range oddGrantTexts() {
		for i, place := range []func(a *grantArguments){
			func(a *grantArguments) { a.server.Clients[0].Id = text },
			func(a *grantArguments) { a.server.Clients[3].Secret = []byte(text) },
			func(a *grantArguments) { a.server.Clients[0].Redirects[0] = text },
			func(a *grantArguments) {
				a.server.Clients[0].Redirects[0], a.asks[0].Redirect, a.asks[1].Redirect = text, text, text
			},
			func(a *grantArguments) { a.server.Clients[0].Scopes[1] = text },
			func(a *grantArguments) { a.server.Clients[0].Scopes = []string{text} },
			func(a *grantArguments) { a.server.Clients[0].Scopes, a.asks[0].Scopes = []string{text}, []string{text} },
			func(a *grantArguments) { a.server.Key = []byte(text) },
			func(a *grantArguments) { a.verifier = text },
			func(a *grantArguments) { a.key = []byte(text) },
			func(a *grantArguments) { a.kind = text },
		} {
			a := plainGrantArguments()
			place(&a)
			a.askWords(t, "place "+strconv.Itoa(i)+" of "+text)
		}
		for at := range story() {
			for i, place := range []func(a *impl.GrantAsk){
				func(a *impl.GrantAsk) { a.Client = text },
				func(a *impl.GrantAsk) { a.Secret = text },
				func(a *impl.GrantAsk) { a.Redirect = text },
				func(a *impl.GrantAsk) { a.Challenge = text },
				func(a *impl.GrantAsk) { a.Verifier = text },
				func(a *impl.GrantAsk) { a.User = text },
				func(a *impl.GrantAsk) { a.Code = text },
				func(a *impl.GrantAsk) { a.Audience = text },
				func(a *impl.GrantAsk) { a.Scopes = []string{text} },
				func(a *impl.GrantAsk) { a.Scopes = append(a.Scopes, text) },
			} {
				asks := story()
				place(&asks[at])
				h, _ := servedByWords(shop(), asks)
				askReplies(t, h, impl.RunServer(shop(), asks))
				if t.Failed() {
					t.Fatalf("place %d of %.80q in ask %d", i, text, at)
				}
			}
		}
	}
}

func oddGrantNumbers() []int {
	numbers := append(oddInts(), 5, 6, 7, 8, 9, 10, 11, 12, 13, 14, 16, 17, 50, 999999, 1000000, 1000001)
	return append(numbers, lastTime-1, lastTime, lastTime+1, lastTime+10, lastTime+11, lastTime+1000001, -lastTime)
}

func TestGrantsAnswerAtAnyNumbers(t *testing.T) {
	for _, num := range oddGrantNumbers() {
		for i, place := range []func(a *grantArguments){
			func(a *grantArguments) { a.server.Short = num },
			func(a *grantArguments) { a.server.Long = num },
			func(a *grantArguments) { a.server.Short, a.server.Long = num, num },
			func(a *grantArguments) { a.server.Clients[0].Kinds[1] = num },
			func(a *grantArguments) { a.server.Clients[2].Kinds = []int{num, num} },
			func(a *grantArguments) { a.time = num },
			func(a *grantArguments) { a.number = num },
			func(a *grantArguments) {
				for i := range a.asks {
					a.asks[i].Time = num
				}
				a.time = num
			},
			func(a *grantArguments) {
				for i := range a.asks {
					a.asks[i].Kind = num
				}
			},
		} {
			a := plainGrantArguments()
			place(&a)
			a.askWords(t, "place "+strconv.Itoa(i)+" of "+strconv.Itoa(num))
		}
		for at := range story() {
			a := plainGrantArguments()
			a.asks[at].Kind = num
			a.askWords(t, "the kind of ask "+strconv.Itoa(at))
			a = plainGrantArguments()
			a.asks[at].Time = num
			a.askWords(t, "the time of ask "+strconv.Itoa(at))
		}
	}
}

func TestGrantsAnswerAtAnyLists(t *testing.T) {
	ask := func(what string, change func(a *grantArguments)) {
		t.Helper()
		a := plainGrantArguments()
		change(&a)
		a.askWords(t, what)
	}
	for _, many := range []int{0, 1, 4, 5, 6, 15, 16, 17, 19, 20, 21, 63, 64, 65, 99, 100, 101, 20001} {
		what := strconv.Itoa(many) + " of them"
		ask(what, func(a *grantArguments) { a.server.Clients = make([]impl.Client, many) })
		ask(what, func(a *grantArguments) { a.server.Clients = countedClients(many) })
		ask(what, func(a *grantArguments) { a.server.Key = make([]byte, many) })
		ask(what, func(a *grantArguments) { a.server.Clients[0].Secret = make([]byte, many) })
		ask(what, func(a *grantArguments) { a.server.Clients[0].Redirects = make([]string, many) })
		ask(what, func(a *grantArguments) { a.server.Clients[0].Redirects = countedNames(many) })
		ask(what, func(a *grantArguments) { a.server.Clients[0].Scopes = make([]string, many) })
		ask(what, func(a *grantArguments) { a.server.Clients[0].Scopes = countedNames(many) })
		ask(what, func(a *grantArguments) { a.server.Clients[0].Kinds = make([]int, many) })
		ask(what, func(a *grantArguments) { a.server.Clients[0].Kinds = slices.Repeat([]int{1}, many) })
		ask(what, func(a *grantArguments) { a.asks = make([]impl.GrantAsk, many) })
		ask(what, func(a *grantArguments) { a.asks = slices.Repeat(a.asks[:1], many) })
		ask(what, func(a *grantArguments) { a.asks[0].Scopes = make([]string, many) })
		ask(what, func(a *grantArguments) { a.asks[0].Scopes = countedNames(many) })
		ask(what, func(a *grantArguments) { a.asks[2].Scopes = countedNames(many) })
		ask(what, func(a *grantArguments) { a.key = make([]byte, many) })
	}
	for i, s := range append(goodServers(), badServers()...) {
		ask("server "+strconv.Itoa(i), func(a *grantArguments) { a.server = s })
	}
	for i, list := range append(badScopeLists(), goodScopeLists()...) {
		ask("scopes "+strconv.Itoa(i), func(a *grantArguments) { a.asks[3].Scopes, a.asks[4].Scopes = list, list })
	}
	ask("nothing", func(a *grantArguments) { *a = grantArguments{} })
}

// everyGrantList is the arguments with each of their lists gone through by what is told for its sort.
func (a grantArguments) everyGrantList(data func([]byte) []byte, texts func([]string) []string, kinds func([]int) []int, clients func([]impl.Client) []impl.Client, asks func([]impl.GrantAsk) []impl.GrantAsk) grantArguments {
	a.key, a.server.Key = data(a.key), data(a.server.Key)
	a.server.Clients, a.asks = clients(a.server.Clients), asks(a.asks)
	for i, c := range a.server.Clients {
		c.Secret, c.Redirects, c.Scopes, c.Kinds = data(c.Secret), texts(c.Redirects), texts(c.Scopes), kinds(c.Kinds)
		a.server.Clients[i] = c
	}
	for i := range a.asks {
		a.asks[i].Scopes = texts(a.asks[i].Scopes)
	}
	return a
}

func (a grantArguments) roomy() grantArguments {
	return a.everyGrantList(
		func(data []byte) []byte { return withRoom(data, 7) },
		func(texts []string) []string { return withRoom(texts, "behind") },
		func(kinds []int) []int { return withRoom(kinds, 4) },
		func(clients []impl.Client) []impl.Client { return withRoom(clients, impl.Client{Id: "zz"}) },
		func(asks []impl.GrantAsk) []impl.GrantAsk { return withRoom(asks, impl.GrantAsk{Code: "behind"}) },
	)
}

func (a grantArguments) opened() grantArguments {
	return a.everyGrantList(opened[byte], opened[string], opened[int], opened[impl.Client], opened[impl.GrantAsk])
}

// scribbleOver goes from the lists within to those that hold them.
func (a grantArguments) scribbleOver() {
	keep := func(clients []impl.Client) []impl.Client { return clients }
	a.everyGrantList(scribbled[byte](7), scribbled("scribbled"), scribbled(9), keep, func(asks []impl.GrantAsk) []impl.GrantAsk { return asks })
	scribble(a.server.Clients, impl.Client{Id: "scribbled"})
	scribble(a.asks, impl.GrantAsk{Code: "scribbled"})
}

// grantAnswers are all that the functions of the chapter answer.
type grantAnswers struct {
	good    bool
	texts   [2]string
	replies []impl.GrantReply
	live    []impl.LiveToken
}

func (a grantArguments) ask() grantAnswers {
	return grantAnswers{
		good:    impl.GoodServer(a.server),
		texts:   [2]string{impl.ChallengeOf(a.verifier), impl.HandleOf(a.key, a.kind, a.number)},
		replies: impl.RunServer(a.server, a.asks),
		live:    impl.LiveTokens(a.server, a.asks, a.time),
	}
}

// told is all of the answers as a text, in memory of its own.
func (r grantAnswers) told() string {
	return shown(r)
}

func (r grantAnswers) scribbleOver() {
	for _, reply := range r.replies {
		scribble(reply.Scopes, "scribbled")
	}
	for _, token := range r.live {
		scribble(token.Scopes, "scribbled")
	}
	scribble(r.replies, impl.GrantReply{Code: "scribbled"})
	scribble(r.live, impl.LiveToken{Handle: "scribbled"})
}

func manyGrantArguments() []grantArguments {
	from := drawn()
	all := []grantArguments{plainGrantArguments(), {}}
	add := func(change func(a *grantArguments)) {
		a := plainGrantArguments()
		change(&a)
		all = append(all, a)
	}
	for i, s := range append(goodServers(), badServers()...) {
		if len(s.Clients) < 100 && i%2 == 0 {
			add(func(a *grantArguments) { a.server = s })
		}
	}
	for i, list := range append(badScopeLists(), goodScopeLists()...) {
		if len(list) < 100 && i%3 == 0 {
			add(func(a *grantArguments) { a.asks[0].Scopes, a.asks[7].Scopes = list, list })
		}
	}
	for many := range 14 {
		add(func(a *grantArguments) { a.asks, a.time, a.number = a.asks[:many], 9+many, many })
		add(func(a *grantArguments) { a.asks, a.time = a.asks[many:], many })
	}
	for range 400 {
		h := drawnServed(from, drawnShop(from), from.Intn(60))
		all = append(all, grantArguments{server: h.server, asks: h.asks(), time: h.now() + from.Intn(4), verifier: drawnText(from, "aZ0_.- ", 3), key: drawnBytes(from, from.Intn(66)), kind: "k" + drawnText(from, "aZ0_-", 3), number: from.Intn(5)})
	}
	turned := plainGrantArguments()
	slices.Reverse(turned.server.Clients)
	slices.Reverse(turned.asks)
	return append(all, turned)
}

func TestArgumentsOfGrantsStayAsTheyWere(t *testing.T) {
	for i, plain := range manyGrantArguments() {
		plain.askWords(t, "arguments "+strconv.Itoa(i))
		a := plain.roomy()
		before := a.opened()
		first := a.ask()
		if !reflect.DeepEqual(a.opened(), before) {
			t.Errorf("arguments %d changed", i)
		}
		first.scribbleOver()
		if !reflect.DeepEqual(a.opened(), before) {
			t.Errorf("arguments %d changed with their answers", i)
		}
	}
}

func TestAnswersOfGrantsShareNothing(t *testing.T) {
	lists := 0
	for i, plain := range manyGrantArguments() {
		a := plain.roomy()
		first, second := a.ask(), a.ask()
		spans := slices.Concat(spansOf(reflect.ValueOf(first), "first"), spansOf(reflect.ValueOf(second), "second"))
		own := spansOf(reflect.ValueOf(a), "argument")
		lists += len(spans)
		if found := shared(spans); found != "" {
			t.Errorf("answers %d share memory: %s", i, found)
		}
		for _, s := range spans {
			for _, o := range own {
				if s.from < o.to && o.from < s.to {
					t.Errorf("answers %d share memory: %s and %s", i, s.what, o.what)
				}
			}
		}
		kept := second.told()
		first.scribbleOver()
		a.scribbleOver()
		if second.told() != kept {
			t.Errorf("answers %d changed with their arguments, or with other answers", i)
		}
	}
	if lists < 4000 {
		t.Errorf("only %d lists", lists)
	}
}

func TestAnEmptyListOfGrantsIsTheNilList(t *testing.T) {
	// Lists of no length with room behind them are the nil list, too.
	room := make([]string, 3)[:0]
	for _, list := range [][]string{nil, {}, room} {
		s := shopWith(func(c *impl.Client) { c.Secret, c.Redirects, c.Kinds, c.Scopes = []byte{}, list, []int{}, list })
		if !impl.GoodServer(s) {
			t.Errorf("%#v: want it good", list)
		}
		asks := story()
		asks[12].Scopes, asks[8].Scopes = list, list
		asks[3].Scopes = list
		if got := impl.RunServer(shop(), asks); got[8].Err != 0 || len(got[3].Scopes) != 2 || !got[12].Active {
			t.Errorf("%#v: got %s", list, shown(got))
		}
		asks[0].Scopes = list
		if got := impl.RunServer(shop(), asks); got[0].Err != impl.ErrScope || got[0].Scopes != nil {
			t.Errorf("%#v: got %s", list, shown(got[0]))
		}
	}
	for _, asks := range [][]impl.GrantAsk{nil, {}, make([]impl.GrantAsk, 3)[:0]} {
		if got := impl.RunServer(shop(), asks); got != nil {
			t.Errorf("RunServer: got %#v", got)
		}
		if got := impl.LiveTokens(shop(), asks, 0); got != nil {
			t.Errorf("LiveTokens: got %#v", got)
		}
	}
	if got := impl.RunServer(impl.Server{Clients: []impl.Client{}, Key: []byte{}, Short: 1, Long: 1}, make([]impl.GrantAsk, 1)); len(got) != 1 || !reflect.DeepEqual(got[0], impl.GrantReply{Err: impl.ErrForm}) {
		t.Errorf("RunServer: got %#v", got)
	}
	for _, reply := range impl.RunServer(shop(), story()) {
		if reply.Scopes != nil && len(reply.Scopes) == 0 {
			t.Errorf("an empty list that is not nil: %#v", reply)
		}
	}
	for _, time := range []int{math.MinInt, 8, 17, math.MaxInt} {
		if got := impl.LiveTokens(shop(), story(), time); got != nil {
			t.Errorf("LiveTokens at %d: got %#v", time, got)
		}
	}
}

func TestGrantsAnswerTheSameAgain(t *testing.T) {
	for i, a := range manyGrantArguments() {
		first := a.ask().told()
		for range 3 {
			if a.ask().told() != first {
				t.Errorf("answers %d are others when they are asked again", i)
			}
		}
	}
}

// Many ask at once, with the same arguments.
func TestGrantsAtOnce(t *testing.T) {
	all := manyGrantArguments()
	var want []string
	for _, a := range all {
		want = append(want, a.ask().told())
	}
	var asking sync.WaitGroup
	for worker := range 8 {
		asking.Add(1)
		go func() {
			defer asking.Done()
			for i := worker % 3; i < len(all); i += 3 {
				if got := all[i].ask().told(); got != want[i] {
					t.Errorf("answers %d are others when many ask", i)
				}
			}
		}()
	}
	asking.Wait()
}
