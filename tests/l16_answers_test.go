package tests

import (
	"bytes"
	"math"
	"reflect"
	"slices"
	"strconv"
	"strings"
	"sync"
	"testing"

	"loop.example/g00036/impl"
)

// codeCase is all that the three functions of codes take.
type codeCase struct {
	secret  []byte
	counter int
	window  int
	time    int
	last    int
	digits  int
	code    string
}

// proofArguments are all that the functions of the chapter take.
type proofArguments struct {
	pass     passCase
	stored   impl.Stored
	salt     []byte
	rounds   int
	code     codeCase
	throttle impl.Throttle
	try      impl.Try
	tries    []impl.Try
	answer   answerCase
	recover  recoverCase
}

func plainProofArguments() proofArguments {
	return proofArguments{
		pass:     passCase{impl.PassRule{Least: 30, Kinds: 4, Banned: []string{"word", "ond", "sEC"}, Kept: 2}, "second", "Second-Word", storedAll("first", "Second-Word", "third")},
		stored:   storedOf("Second-Word", "salt", 5),
		salt:     []byte("salt"),
		rounds:   7,
		code:     codeCase{[]byte("key"), 2, 9, 121, 3, 6, codeByWords([]byte("key"), 5, 6)},
		throttle: impl.Throttle{Fails: 5, Until: 90, Last: 50},
		try:      impl.Try{Time: 90},
		tries:    triesOf("1 wrong", "2 wrong", "3 wrong", "12 right", "13 wrong", "32 right", "33 right", "5 wrong"),
		answer:   plainAnswerCase(),
		recover:  plainRecoverCase(),
	}
}

// askWords holds all functions of the chapter against the words.
func (a proofArguments) askWords(t *testing.T, what string) {
	t.Helper()
	before := t.Failed()
	askHash(t, a.pass.pass, a.salt, a.rounds)
	askPassCheck(t, a.stored, a.pass.pass, passCheckByWords(a.stored, a.pass.pass))
	askFaults(t, a.pass)
	c := a.code
	askCodeOf(t, c.secret, c.counter, c.digits)
	askCode(t, c.secret, c.counter, c.window, c.digits, c.code)
	askTimed(t, c.secret, c.time, c.last, c.digits, c.code)
	askTry(t, a.throttle, a.try.Time, a.try.Right)
	askTries(t, a.tries)
	askAnswer(t, a.answer.secret, a.answer.key.Origin, a.answer.challenge, a.answer.answer.Counter)
	askShown(t, a.answer)
	askRecovery(t, a.recover)
	if t.Failed() && !before {
		t.Errorf("first with %.200s", what)
	}
}

func TestPlainProofArguments(t *testing.T) {
	a := plainProofArguments()
	a.askWords(t, "the plain arguments")
	told := a.ask()
	if len(told.hash) != 16 || len(told.faults) != 5 || len(told.tries) != 8 || len(told.recovered) != 19 || len(told.code) != 6 {
		t.Errorf("the plain arguments tell too little: %s", told.told())
	}
	if told.checked != [3]bool{true, true, true} || told.next != [2]int{6, 5} || told.outcomes != [2]int{impl.TryWrong, 0} {
		t.Errorf("the plain arguments are not taken: %s", told.told())
	}
}

func oddProofTexts() []string {
	var texts []string
	for i, text := range oddTexts() {
		if i%6 == 0 {
			texts = append(texts, text)
		}
	}
	texts = append(append(texts, badWords()...), passTexts()...)
	for _, length := range []int{2, 3, 63, 64, 65, 99, 100, 101, 999, 1000, 1001, 19999, 20000, 20001, 100000} {
		texts = append(texts, strings.Repeat("w", length), strings.Repeat("\xff", length))
	}
	return append(texts, "bob", "cy", "eve", "shop.example", "000000", "0", "-1", codeByWords([]byte("key"), 4, 6))
}

func TestProofsAnswerAtAnyText(t *testing.T) {
	for _, text := range oddProofTexts() {
		for i, place := range []func(a *proofArguments){
			func(a *proofArguments) { a.pass.pass = text },
			func(a *proofArguments) { a.pass.user = text },
			func(a *proofArguments) { a.pass.pass, a.pass.user = text, text },
			func(a *proofArguments) { a.pass.rule.Banned[1] = text },
			func(a *proofArguments) { a.pass.pass, a.pass.rule.Banned[2] = text, text },
			func(a *proofArguments) {
				a.salt, a.stored.Salt, a.pass.old[1].Salt = []byte(text), []byte(text), []byte(text)
			},
			func(a *proofArguments) { a.stored.Hash, a.pass.old[0].Hash = []byte(text), []byte(text) },
			func(a *proofArguments) { a.stored, a.pass.pass = storedOf(text, text, 2), text },
			func(a *proofArguments) { a.code.secret = []byte(text) },
			func(a *proofArguments) { a.code.code = text },
			func(a *proofArguments) { a.answer.key.Origin = text },
			func(a *proofArguments) { a.answer.answer.Origin = text },
			func(a *proofArguments) { a.answer.key.Origin, a.answer.answer.Origin = text, text },
			func(a *proofArguments) { a.answer.challenge = []byte(text) },
			func(a *proofArguments) { a.recover.helpers[1] = text },
			func(a *proofArguments) { a.recover.events[1].Who = text },
			func(a *proofArguments) { a.recover.events[8].Who = text },
		} {
			a := plainProofArguments()
			place(&a)
			a.askWords(t, "place "+strconv.Itoa(i)+" of "+text)
		}
	}
}

func oddProofNumbers() []int {
	numbers := append(oddInts(), 5, 6, 7, 8, 9, 10, 11, 12, 29, 30, 49, 50, 51, 63, 64, 65, 89, 90, 91, 119, 120, 121, 149, 150, 999, 1000, 1001)
	for _, end := range []int{1e6, 1e9, 1e11, 1e11 + 3600, 1e12} {
		numbers = append(numbers, end-1, end, end+1, -end)
	}
	return numbers
}

func TestProofsAnswerAtAnyNumbers(t *testing.T) {
	for _, num := range oddProofNumbers() {
		for i, place := range []func(a *proofArguments){
			func(a *proofArguments) { a.rounds = num },
			func(a *proofArguments) { a.stored.Rounds, a.pass.old[1].Rounds = num, num },
			func(a *proofArguments) { a.pass.rule.Least = num },
			func(a *proofArguments) { a.pass.rule.Kinds = num },
			func(a *proofArguments) { a.pass.rule.Kept = num },
			func(a *proofArguments) { a.code.counter = num },
			func(a *proofArguments) { a.code.window = num },
			func(a *proofArguments) { a.code.counter, a.code.window = num, num },
			func(a *proofArguments) { a.code.counter, a.code.window, a.code.code = num, 50, "" },
			func(a *proofArguments) { a.code.digits = num },
			func(a *proofArguments) { a.code.digits, a.code.code = num, "" },
			func(a *proofArguments) { a.code.time = num },
			func(a *proofArguments) { a.code.last = num },
			func(a *proofArguments) { a.code.time, a.code.last = num, num },
			func(a *proofArguments) { a.throttle.Fails = num },
			func(a *proofArguments) { a.throttle.Until = num },
			func(a *proofArguments) { a.throttle.Last = num },
			func(a *proofArguments) { a.try.Time = num },
			func(a *proofArguments) { a.try.Time, a.throttle.Last = num, num },
			func(a *proofArguments) { a.try.Time, a.throttle.Until, a.try.Right = num, num, true },
			func(a *proofArguments) { a.throttle = impl.Throttle{Fails: num, Until: num, Last: num} },
			func(a *proofArguments) { a.tries[1].Time = num },
			func(a *proofArguments) { a.tries[7].Time = num },
			func(a *proofArguments) { a.answer.secret = num },
			func(a *proofArguments) { a.answer.key.Public = num },
			func(a *proofArguments) { a.answer.key.Counter = num },
			func(a *proofArguments) { a.answer.answer.Counter = num },
			func(a *proofArguments) { a.answer.key.Counter, a.answer.answer.Counter = num, num },
			func(a *proofArguments) { a.answer.answer.Sig.R = num },
			func(a *proofArguments) { a.answer.answer.Sig.Z = num },
			func(a *proofArguments) { a.recover.need = num },
			func(a *proofArguments) { a.recover.delay = num },
			func(a *proofArguments) { a.recover.events[1].Kind = num },
			func(a *proofArguments) { a.recover.events[0].Time = num },
			func(a *proofArguments) { a.recover.events[8].Time = num },
			func(a *proofArguments) { a.recover.events[8].Time, a.recover.delay = num, num },
		} {
			a := plainProofArguments()
			place(&a)
			a.askWords(t, "place "+strconv.Itoa(i)+" of "+strconv.Itoa(num))
		}
	}
}

func TestProofsAnswerAtAnyLists(t *testing.T) {
	ask := func(what string, change func(a *proofArguments)) {
		t.Helper()
		a := plainProofArguments()
		change(&a)
		a.askWords(t, what)
	}
	for _, many := range []int{0, 1, 9, 10, 11, 19, 20, 21, 199, 200, 201, 999, 1000, 1001, 100000} {
		what := strconv.Itoa(many) + " of them"
		ask(what, func(a *proofArguments) { a.pass.rule.Banned = make([]string, many) })
		ask(what, func(a *proofArguments) { a.pass.rule.Banned = slices.Repeat([]string{"w"}, many) })
		ask(what, func(a *proofArguments) { a.pass.old = make([]impl.Stored, many) })
		ask(what, func(a *proofArguments) { a.pass.old = slices.Repeat([]impl.Stored{a.stored}, many) })
		ask(what, func(a *proofArguments) { a.tries = make([]impl.Try, many) })
		ask(what, func(a *proofArguments) { a.tries = slices.Repeat(triesOf("5 right"), many) })
		ask(what, func(a *proofArguments) { a.recover.helpers = make([]string, many) })
		ask(what, func(a *proofArguments) { a.recover.helpers = countedHelpers(many) })
		ask(what, func(a *proofArguments) { a.recover.events = make([]impl.RecoverEvent, many) })
		ask(what, func(a *proofArguments) { a.recover.events = slices.Repeat(recoverOf("5 ask"), many) })
	}
	for i, r := range append(goodPassRules(), badPassRules()...) {
		ask("rule "+strconv.Itoa(i), func(a *proofArguments) { a.pass.rule = r })
	}
	for i, st := range otherStored("Second-Word") {
		ask("stored "+strconv.Itoa(i), func(a *proofArguments) { a.stored, a.pass.old[1] = st, st })
	}
	for i, helpers := range badHelpers() {
		ask("helpers "+strconv.Itoa(i), func(a *proofArguments) { a.recover.helpers = helpers })
	}
	ask("nothing", func(a *proofArguments) { *a = proofArguments{} })
	// As slow as it may be: every old pass is asked with all rounds.
	slow := storedOf("Second-Word", strings.Repeat("s", 64), impl.MaxRounds)
	slow.Hash = bytes.Repeat([]byte{1}, 16)
	ask("slow ones", func(a *proofArguments) { a.pass.old, a.pass.rule.Kept = slices.Repeat([]impl.Stored{slow}, 20), 10 })
}

func roomyStored(list []impl.Stored) []impl.Stored {
	list = withRoom(list, impl.Stored{Rounds: -7})
	for i, st := range list {
		list[i].Salt, list[i].Hash = withRoom(st.Salt, 7), withRoom(st.Hash, 7)
	}
	return list
}

func openedStored(list []impl.Stored) []impl.Stored {
	list = opened(list)
	for i, st := range list {
		list[i].Salt, list[i].Hash = opened(st.Salt), opened(st.Hash)
	}
	return list
}

// everyProofList is the arguments with each of their lists gone through by what is told for its sort.
func (a proofArguments) everyProofList(data func([]byte) []byte, texts func([]string) []string, old func([]impl.Stored) []impl.Stored, tries func([]impl.Try) []impl.Try, events func([]impl.RecoverEvent) []impl.RecoverEvent) proofArguments {
	a.pass.rule.Banned, a.pass.old = texts(a.pass.rule.Banned), old(a.pass.old)
	a.stored.Salt, a.stored.Hash, a.salt = data(a.stored.Salt), data(a.stored.Hash), data(a.salt)
	a.code.secret, a.tries, a.answer.challenge = data(a.code.secret), tries(a.tries), data(a.answer.challenge)
	a.recover.helpers, a.recover.events = texts(a.recover.helpers), events(a.recover.events)
	return a
}

func (a proofArguments) roomy() proofArguments {
	return a.everyProofList(
		func(data []byte) []byte { return withRoom(data, 7) },
		func(texts []string) []string { return withRoom(texts, "behind") },
		roomyStored,
		func(tries []impl.Try) []impl.Try { return withRoom(tries, impl.Try{Time: -7}) },
		func(events []impl.RecoverEvent) []impl.RecoverEvent {
			return withRoom(events, impl.RecoverEvent{Kind: -7})
		},
	)
}

func (a proofArguments) opened() proofArguments {
	return a.everyProofList(opened[byte], opened[string], openedStored, opened[impl.Try], opened[impl.RecoverEvent])
}

// scribbled writes over a list and the room behind it.
func scribbled[T any](x T) func([]T) []T {
	return func(list []T) []T {
		scribble(list, x)
		return list
	}
}

func (a proofArguments) scribbleOver() {
	for _, st := range a.pass.old {
		scribble(st.Salt, 7)
		scribble(st.Hash, 7)
	}
	a.everyProofList(scribbled[byte](7), scribbled("scribbled"), scribbled(impl.Stored{Rounds: -7}), scribbled(impl.Try{Time: -7}), scribbled(impl.RecoverEvent{Kind: -7}))
}

// proofAnswers are all that the functions of the chapter answer.
type proofAnswers struct {
	hash      []byte
	faults    []int
	tries     []int
	recovered []int
	code      string
	checked   [3]bool
	next      [2]int
	throttle  impl.Throttle
	answer    impl.Answer
	key       impl.HardKey
	outcomes  [2]int
}

func (a proofArguments) ask() proofAnswers {
	var r proofAnswers
	c, shown := a.code, a.answer
	r.hash = impl.PassHash(a.pass.pass, a.salt, a.rounds)
	r.faults = impl.PassFaults(a.pass.rule, a.pass.user, a.pass.pass, a.pass.old)
	r.tries = impl.RunTries(a.tries)
	r.recovered = impl.RunRecovery(a.recover.need, a.recover.delay, a.recover.helpers, a.recover.events)
	r.code = impl.CodeOf(c.secret, c.counter, c.digits)
	r.checked[0] = impl.PassCheck(a.stored, a.pass.pass)
	r.next[0], r.checked[1] = impl.CheckCode(c.secret, c.counter, c.window, c.digits, c.code)
	r.next[1], r.checked[2] = impl.CheckTimed(c.secret, c.time, c.last, c.digits, c.code)
	r.throttle, r.outcomes[0] = impl.TryOnce(a.throttle, a.try.Time, a.try.Right)
	r.answer = impl.AnswerChallenge(shown.secret, shown.key.Origin, shown.challenge, shown.answer.Counter)
	r.key, r.outcomes[1] = impl.CheckAnswer(shown.key, shown.challenge, shown.answer)
	return r
}

// told is all of the answers as a text, in memory of its own.
func (r proofAnswers) told() string {
	return shown(r)
}

func (r proofAnswers) scribbleOver() {
	scribble(r.hash, 7)
	scribble(r.faults, -7)
	scribble(r.tries, -7)
	scribble(r.recovered, -7)
}

func manyProofArguments() []proofArguments {
	from := drawn()
	all := []proofArguments{plainProofArguments(), {}}
	add := func(change func(a *proofArguments)) {
		a := plainProofArguments()
		change(&a)
		all = append(all, a)
	}
	for _, r := range append(goodPassRules(), badPassRules()...) {
		if len(r.Banned) < 5000 {
			add(func(a *proofArguments) { a.pass.rule = r })
		}
	}
	for i, st := range otherStored("Second-Word") {
		if i%3 == 0 {
			add(func(a *proofArguments) { a.stored, a.pass.old[1] = st, st })
		}
	}
	for _, rounds := range []int{math.MinInt, 0, 1, 2, 3, 1000, 1001} {
		add(func(a *proofArguments) { a.rounds = rounds })
	}
	for _, helpers := range badHelpers() {
		if len(helpers) < 5000 {
			add(func(a *proofArguments) { a.recover.helpers = helpers })
		}
	}
	for many := range 19 {
		add(func(a *proofArguments) {
			a.recover.events, a.tries, a.salt = a.recover.events[:many], a.tries[:min(many, 8)], a.salt[:min(many, 4)]
		})
	}
	for range 400 {
		c := answerCase{secret: 1 + from.Intn(impl.Order-1), challenge: drawnBytes(from, from.Intn(102))}
		c.key = impl.HardKey{Public: impl.PublicOf(c.secret), Origin: "o", Counter: from.Intn(4)}
		c.answer = answerByWords(c.secret, "o", c.challenge, from.Intn(6))
		secret := drawnBytes(from, from.Intn(67))
		all = append(all, proofArguments{
			pass: drawnPassCase(from), stored: storedOf("p", "s", from.Intn(4)), salt: drawnBytes(from, from.Intn(67)), rounds: from.Intn(9),
			code:     codeCase{secret, from.Intn(9), from.Intn(53), from.Intn(300), from.Intn(12) - 2, 3 + from.Intn(7), codeByWords(secret, from.Intn(12), 4)},
			throttle: impl.Throttle{Fails: from.Intn(9), Until: from.Intn(99), Last: from.Intn(99)}, try: impl.Try{Time: from.Intn(120), Right: from.Intn(2) == 0},
			tries: drawnTries(from, from.Intn(40)), answer: c, recover: drawnRecovery(from, from.Intn(40)),
		})
	}
	turned := plainProofArguments()
	slices.Reverse(turned.pass.rule.Banned)
	slices.Reverse(turned.pass.old)
	slices.Reverse(turned.tries)
	slices.Reverse(turned.recover.events)
	return append(all, turned)
}

func TestArgumentsOfProofsStayAsTheyWere(t *testing.T) {
	for i, plain := range manyProofArguments() {
		plain.askWords(t, "arguments "+strconv.Itoa(i))
		a := plain.roomy()
		before := a.opened()
		first := a.ask()
		if !reflect.DeepEqual(a.opened(), before) {
			t.Errorf("arguments %d changed", i)
		}
		first.scribbleOver()
		if !reflect.DeepEqual(a.opened(), before) {
			t.Errorf("arguments %d changed with their answers", i)
		}
	}
}

func TestAnswersOfProofsShareNothing(t *testing.T) {
	lists := 0
	for i, plain := range manyProofArguments() {
		a := plain.roomy()
		first, second := a.ask(), a.ask()
		spans := slices.Concat(spansOf(reflect.ValueOf(first), "first"), spansOf(reflect.ValueOf(second), "second"))
		own := spansOf(reflect.ValueOf(a), "argument")
		lists += len(spans)
		if found := shared(spans); found != "" {
			t.Errorf("answers %d share memory: %s", i, found)
		}
		for _, s := range spans {
			for _, o := range own {
				if s.from < o.to && o.from < s.to {
					t.Errorf("answers %d share memory: %s and %s", i, s.what, o.what)
				}
			}
		}
		kept := second.told()
		first.scribbleOver()
		a.scribbleOver()
		if second.told() != kept {
			t.Errorf("answers %d changed with their arguments, or with other answers", i)
		}
	}
	if lists < 2000 {
		t.Errorf("only %d lists", lists)
	}
}

func TestAnEmptyListOfProofsIsTheNilList(t *testing.T) {
	empty := impl.Stored{Salt: []byte{}, Rounds: 2, Hash: passHashByWords("p", nil, 2)}
	for _, salt := range [][]byte{nil, {}, []byte("salt")[:0]} {
		if got := impl.PassHash("p", salt, 2); !bytes.Equal(got, empty.Hash) {
			t.Errorf("PassHash: got %x", got)
		}
		if !impl.PassCheck(impl.Stored{Salt: salt, Rounds: 2, Hash: empty.Hash}, "p") || !impl.PassCheck(empty, "p") {
			t.Errorf("PassCheck: want the pass taken")
		}
	}
	for _, hash := range [][]byte{nil, {}, empty.Hash[:0]} {
		for _, rounds := range []int{0, 2, 1001} {
			if impl.PassCheck(impl.Stored{Rounds: rounds, Hash: hash}, "p") {
				t.Errorf("PassCheck: want no pass taken by no hash")
			}
		}
	}
	for _, r := range []impl.PassRule{{Least: 1}, {Least: 1, Banned: []string{}}, {Least: 1, Kept: 10}} {
		for _, old := range [][]impl.Stored{nil, {}, storedAll("q")[:0], storedAll("q")} {
			if got := impl.PassFaults(r, "", "p", old); got != nil {
				t.Errorf("PassFaults: got %#v", got)
			}
		}
	}
	if got := impl.PassFaults(impl.PassRule{}, "", "", nil); got != nil {
		t.Errorf("PassFaults: got %#v", got)
	}
	for _, list := range [][]impl.Try{nil, {}, triesOf("1 right")[:0], make([]impl.Try, 1001)} {
		if got := impl.RunTries(list); got != nil {
			t.Errorf("RunTries: got %#v", got)
		}
	}
	for _, helpers := range [][]string{nil, {}, {"bob"}} {
		for _, events := range [][]impl.RecoverEvent{nil, {}, recoverOf("1 ask")[:0], make([]impl.RecoverEvent, 201)} {
			if got := impl.RunRecovery(1, 1, helpers, events); got != nil {
				t.Errorf("RunRecovery: got %#v", got)
			}
		}
		if got := impl.RunRecovery(1, 0, helpers, recoverOf("1 ask", "1 vote eve", "1 take")); !slices.Equal(got, []int{0, 4, 6}) {
			t.Errorf("RunRecovery: got %v", got)
		}
	}
	for _, none := range [][]byte{nil, {}} {
		if got := impl.PassHash("p", none, 0); got != nil || impl.CodeOf(none, 1, 6) != "" {
			t.Errorf("PassHash: got %#v", got)
		}
		c := answerCase{9, impl.HardKey{Public: impl.PublicOf(9), Origin: "o"}, none, answerByWords(9, "o", nil, 1)}
		if _, outcome := askShown(t, c); outcome != 0 || askAnswer(t, 9, "o", none, 1) != c.answer {
			t.Errorf("an empty challenge: got %d", outcome)
		}
	}
}

func TestProofsAnswerTheSameAgain(t *testing.T) {
	for i, a := range manyProofArguments() {
		first := a.ask().told()
		for range 3 {
			if a.ask().told() != first {
				t.Errorf("answers %d are others when they are asked again", i)
			}
		}
	}
}

// Many ask at once, with the same arguments.
func TestProofsAtOnce(t *testing.T) {
	all := manyProofArguments()
	var want []string
	for _, a := range all {
		want = append(want, a.ask().told())
	}
	var asking sync.WaitGroup
	for worker := range 8 {
		asking.Add(1)
		go func() {
			defer asking.Done()
			for i := worker % 3; i < len(all); i += 3 {
				if got := all[i].ask().told(); got != want[i] {
					t.Errorf("answers %d are others when many ask", i)
				}
			}
		}()
	}
	asking.Wait()
}
