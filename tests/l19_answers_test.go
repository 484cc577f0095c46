package tests

import (
	"math"
	"reflect"
	"slices"
	"strconv"
	"strings"
	"sync"
	"testing"

	"loop.example/g00036/impl"
)

// sessArguments are all that the functions of the chapter take.
type sessArguments struct {
	conf   impl.SessConf
	events []impl.SessEvent
	time   int
}

func plainSessArguments() sessArguments {
	return sessArguments{conf: plainSessConf(), events: sessDay(), time: 9}
}

// askWords holds all functions of the chapter against the words.
func (a sessArguments) askWords(t *testing.T, what string) {
	t.Helper()
	before := t.Failed()
	askGoodSessConf(t, a.conf)
	askSessions(t, a.conf, a.events)
	if got, want := impl.SignedIn(a.conf, a.events, a.time), signedInByWords(a.conf, a.events, a.time); !slices.Equal(got, want) {
		t.Errorf("SignedIn at %d: got %.300s, want %.300s", a.time, shown(got), shown(want))
	}
	if t.Failed() && !before {
		t.Errorf("first with %.200s", what)
	}
}

func TestPlainSessArguments(t *testing.T) {
	a := plainSessArguments()
	a.askWords(t, "the plain arguments")
	r := a.ask()
	if len(r.replies) != 12 || len(r.signedIn) != 3 || !r.good {
		t.Errorf("the plain arguments tell too little: %s", r.told())
	}
	for i, reply := range r.replies {
		if reply.Err != 0 {
			t.Errorf("event %d has %d", i, reply.Err)
		}
	}
}

func oddSessTexts() []string {
	var texts []string
	for i, text := range oddTexts() {
		if i%25 == 0 {
			texts = append(texts, text)
		}
	}
	texts = append(append(texts, notNames()...), strangeIds()...)
	for _, length := range []int{29, 30, 31, 63, 64, 65, 199, 200, 201, 20000, 20001, 100000} {
		texts = append(texts, strings.Repeat("w", length), strings.Repeat("\xff", length))
	}
	for number := 1; number <= 10; number++ {
		texts = append(texts, idIn(strconv.Itoa(number)))
	}
	return append(texts, "ann", "bob", "cy", "dan", "pc", "tv", "phone")
}

func TestSessionsAnswerAtAnyText(t *testing.T) {
	for _, text := range oddSessTexts() {
		a := plainSessArguments()
		a.conf.Key = []byte(text)
		a.askWords(t, "the key "+text)
		for at := range sessDay() {
			for i, place := range []func(e *impl.SessEvent){
				func(e *impl.SessEvent) { e.User = text },
				func(e *impl.SessEvent) { e.Device = text },
				func(e *impl.SessEvent) { e.Id = text },
				func(e *impl.SessEvent) { e.User, e.Device, e.Id = text, text, text },
			} {
				a := plainSessArguments()
				place(&a.events[at])
				a.askWords(t, "place "+strconv.Itoa(i)+" of event "+strconv.Itoa(at)+": "+text)
			}
		}
	}
}

func oddSessNumbers() []int {
	numbers := append(oddInts(), 3, 4, 5, 6, 7, 8, 9, 10, 11, 12, 16, 17, 19, 20, 999999, 1000000, 1000001)
	return append(numbers, lastTime-1, lastTime, lastTime+1, lastTime+10, lastTime+11, lastTime+1000001, -lastTime)
}

func TestSessionsAnswerAtAnyNumbers(t *testing.T) {
	for _, num := range oddSessNumbers() {
		for i, place := range []func(a *sessArguments){
			func(a *sessArguments) { a.conf.Idle = num },
			func(a *sessArguments) { a.conf.Most = num },
			func(a *sessArguments) { a.conf.Idle, a.conf.Most = num, num },
			func(a *sessArguments) { a.time = num },
			func(a *sessArguments) {
				for i := range a.events {
					a.events[i].Time = num
				}
				a.time = num
			},
			func(a *sessArguments) {
				for i := range a.events {
					a.events[i].Kind = num
				}
			},
		} {
			a := plainSessArguments()
			place(&a)
			a.askWords(t, "place "+strconv.Itoa(i)+" of "+strconv.Itoa(num))
		}
		for at := range sessDay() {
			a := plainSessArguments()
			a.events[at].Kind = num
			a.askWords(t, "the kind of event "+strconv.Itoa(at))
			a = plainSessArguments()
			a.events[at].Time = num
			a.askWords(t, "the time of event "+strconv.Itoa(at))
		}
	}
}

func TestSessionsAnswerAtAnyLists(t *testing.T) {
	ask := func(what string, change func(a *sessArguments)) {
		t.Helper()
		a := plainSessArguments()
		change(&a)
		a.askWords(t, what)
	}
	for _, many := range []int{0, 1, 2, 63, 64, 65, 199, 200, 201, 20001} {
		what := strconv.Itoa(many) + " of them"
		ask(what, func(a *sessArguments) { a.conf.Key = make([]byte, many) })
		ask(what, func(a *sessArguments) { a.events = make([]impl.SessEvent, many) })
		ask(what, func(a *sessArguments) { a.events = slices.Repeat(a.events[:1], many) })
		ask(what, func(a *sessArguments) { a.events = slices.Repeat(a.events[3:4], many) })
	}
	for i, c := range append(goodSessConfs(), badSessConfs()...) {
		ask("configuration "+strconv.Itoa(i), func(a *sessArguments) { a.conf = c })
	}
	ask("nothing", func(a *sessArguments) { *a = sessArguments{} })
}

func (a sessArguments) roomy() sessArguments {
	a.conf.Key, a.events = withRoom(a.conf.Key, 7), withRoom(a.events, impl.SessEvent{Id: "behind"})
	return a
}

func (a sessArguments) opened() sessArguments {
	a.conf.Key, a.events = opened(a.conf.Key), opened(a.events)
	return a
}

func (a sessArguments) scribbleOver() {
	scribble(a.conf.Key, 7)
	scribble(a.events, impl.SessEvent{Id: "scribbled"})
}

// sessAnswers are all that the functions of the chapter answer.
type sessAnswers struct {
	good     bool
	replies  []impl.SessReply
	signedIn []impl.SessReply
}

func (a sessArguments) ask() sessAnswers {
	return sessAnswers{good: impl.GoodSessConf(a.conf), replies: impl.RunSessions(a.conf, a.events), signedIn: impl.SignedIn(a.conf, a.events, a.time)}
}

// told is all of the answers as a text, in memory of its own.
func (r sessAnswers) told() string {
	return shown(r)
}

func (r sessAnswers) scribbleOver() {
	scribble(r.replies, impl.SessReply{Id: "scribbled"})
	scribble(r.signedIn, impl.SessReply{Id: "scribbled"})
}

func manySessArguments() []sessArguments {
	from := drawn()
	all := []sessArguments{plainSessArguments(), {}}
	add := func(change func(a *sessArguments)) {
		a := plainSessArguments()
		change(&a)
		all = append(all, a)
	}
	for _, c := range append(goodSessConfs(), badSessConfs()...) {
		add(func(a *sessArguments) { a.conf = c })
	}
	for many := range 13 {
		add(func(a *sessArguments) { a.events = a.events[:many] })
		add(func(a *sessArguments) { a.events, a.time = a.events[many:], many })
	}
	for range 400 {
		h := drawnSessStory(from, drawnSessConf(from), from.Intn(40))
		all = append(all, sessArguments{h.conf, h.events(), h.now() + from.Intn(4)})
	}
	turned := plainSessArguments()
	slices.Reverse(turned.events)
	return append(all, turned)
}

func TestArgumentsOfSessionsStayAsTheyWere(t *testing.T) {
	for i, plain := range manySessArguments() {
		plain.askWords(t, "arguments "+strconv.Itoa(i))
		a := plain.roomy()
		before := a.opened()
		first := a.ask()
		if !reflect.DeepEqual(a.opened(), before) {
			t.Errorf("arguments %d changed", i)
		}
		first.scribbleOver()
		if !reflect.DeepEqual(a.opened(), before) {
			t.Errorf("arguments %d changed with their answers", i)
		}
	}
}

func TestAnswersOfSessionsShareNothing(t *testing.T) {
	lists := 0
	for i, plain := range manySessArguments() {
		a := plain.roomy()
		first, second := a.ask(), a.ask()
		spans := slices.Concat(spansOf(reflect.ValueOf(first), "first"), spansOf(reflect.ValueOf(second), "second"))
		own := spansOf(reflect.ValueOf(a), "argument")
		lists += len(spans)
		if found := shared(spans); found != "" {
			t.Errorf("answers %d share memory: %s", i, found)
		}
		for _, s := range spans {
			for _, o := range own {
				if s.from < o.to && o.from < s.to {
					t.Errorf("answers %d share memory: %s and %s", i, s.what, o.what)
				}
			}
		}
		kept := second.told()
		first.scribbleOver()
		a.scribbleOver()
		if second.told() != kept {
			t.Errorf("answers %d changed with their arguments, or with other answers", i)
		}
	}
	if lists < 1000 {
		t.Errorf("only %d lists", lists)
	}
}

func TestAnEmptyListOfSessionsIsTheNilList(t *testing.T) {
	// Lists of no length with room behind them are the nil list, too.
	for _, events := range [][]impl.SessEvent{nil, {}, make([]impl.SessEvent, 3)[:0]} {
		for _, key := range [][]byte{nil, {}, make([]byte, 3)[:0]} {
			c := impl.SessConf{Key: key, Idle: 1, Most: 1}
			if got := impl.RunSessions(c, events); got != nil || !impl.GoodSessConf(c) {
				t.Errorf("RunSessions: got %#v", got)
			}
			for _, time := range []int{math.MinInt, -1, 0, 1, math.MaxInt} {
				if got := impl.SignedIn(c, events, time); got != nil {
					t.Errorf("SignedIn: got %#v", got)
				}
			}
			if got := impl.RunSessions(c, sessDay()); got[0].Id != "sess1-odbfqu0fn7l3esa6" {
				t.Errorf("%#v: got %#v", key, got[0])
			}
		}
	}
	for _, time := range []int{math.MinInt, 8, 20, math.MaxInt} {
		if got := impl.SignedIn(plainSessConf(), sessDay(), time); got != nil {
			t.Errorf("SignedIn at %d: got %#v", time, got)
		}
	}
	if got := impl.RunSessions(plainSessConf(), make([]impl.SessEvent, 1)); len(got) != 1 || got[0] != (impl.SessReply{Err: 1}) {
		t.Errorf("RunSessions: got %#v", got)
	}
}

func TestSessionsAnswerTheSameAgain(t *testing.T) {
	for i, a := range manySessArguments() {
		first := a.ask().told()
		for range 3 {
			if a.ask().told() != first {
				t.Errorf("answers %d are others when they are asked again", i)
			}
		}
	}
}

// Many ask at once, with the same arguments.
func TestSessionsAtOnce(t *testing.T) {
	all := manySessArguments()
	var want []string
	for _, a := range all {
		want = append(want, a.ask().told())
	}
	var asking sync.WaitGroup
	for worker := range 8 {
		asking.Add(1)
		go func() {
			defer asking.Done()
			for i := worker % 3; i < len(all); i += 3 {
				if got := all[i].ask().told(); got != want[i] {
					t.Errorf("answers %d are others when many ask", i)
				}
			}
		}()
	}
	asking.Wait()
}
