package tests

import (
	"bytes"
	"math"
	"math/rand"
	"slices"
	"strconv"
	"strings"

	"loop.example/g00036/impl"
)

// storedOf is what is stored of a pass.
func storedOf(pass string, salt string, rounds int) impl.Stored {
	return impl.Stored{Salt: []byte(salt), Rounds: rounds, Hash: passHashByWords(pass, []byte(salt), rounds)}
}

// storedAll are passes that were stored one after the other.
func storedAll(passes ...string) []impl.Stored {
	var old []impl.Stored
	for i, pass := range passes {
		old = append(old, storedOf(pass, "salt"+strconv.Itoa(i), 1+i%3))
	}
	return old
}

func timeIn(text string) int {
	time, err := strconv.Atoi(text)
	if err != nil {
		panic("no time: " + text)
	}
	return time
}

// triesOf are the tries of lines: `12 right`, `13 wrong`.
func triesOf(lines ...string) []impl.Try {
	var list []impl.Try
	for _, line := range lines {
		time, word, _ := strings.Cut(line, " ")
		if word != "right" && word != "wrong" {
			panic("no line of a try: " + line)
		}
		list = append(list, impl.Try{Time: timeIn(time), Right: word == "right"})
	}
	return list
}

// recoverOf are the events of lines: `1 ask`, `2 vote bob`, `3 stop`, `4 take`.
func recoverOf(lines ...string) []impl.RecoverEvent {
	kinds := []string{"", "ask", "vote", "stop", "take"}
	var events []impl.RecoverEvent
	for _, line := range lines {
		time, rest, _ := strings.Cut(line, " ")
		word, who, _ := strings.Cut(rest, " ")
		kind := slices.Index(kinds, word)
		if kind < 1 {
			panic("no line of a recovery: " + line)
		}
		events = append(events, impl.RecoverEvent{Kind: kind, Time: timeIn(time), Who: who})
	}
	return events
}

// passTexts are passes of every length, many of which are nearly alike; the last ones have bytes that are not printed.
func passTexts() []string {
	full := strings.Repeat("0123456789abcdef", 4)
	passes := []string{
		"", " ", "  ", "a", "A", "aa", "ab", "ba", "b", "pass", "Pass", "PASS", "pass ", " pass", "pas", "passs", "Secret-7", "secret-7", "Secret-8", "Secret-", "Secret-77",
		full, full[:63], full[1:], full[:63] + "g", "g" + full[1:], strings.Repeat("~", 64), strings.Repeat(" ", 64), strings.Repeat(" ", 63),
	}
	return append(passes, "\x00", "\x00\x00", "a\x00", "\x00a", "\xff", "é", "pass\n", "pass\x7f", strings.Repeat("\x00", 64), strings.Repeat("\xff", 64))
}

func passSalts() []string {
	return []string{"", "s", "salt", "Salt", "salt ", "\x00", "\xff\xfe", strings.Repeat("s", 63), strings.Repeat("s", 64)}
}

// otherStored are made of what is stored of a pass by a change each; none takes the pass.
func otherStored(pass string) []impl.Stored {
	var all []impl.Stored
	add := func(change func(st *impl.Stored)) {
		st := storedOf(pass, "salt", 3)
		change(&st)
		all = append(all, st)
	}
	for i := range 16 {
		for _, flip := range []byte{1, 32, 128, 255} {
			add(func(st *impl.Stored) { st.Hash[i] ^= flip })
		}
	}
	for _, length := range []int{0, 1, 8, 15} {
		add(func(st *impl.Stored) { st.Hash = st.Hash[:length] })
	}
	add(func(st *impl.Stored) { st.Hash = nil })
	add(func(st *impl.Stored) { st.Hash = st.Hash[1:] })
	add(func(st *impl.Stored) { st.Hash = append(st.Hash, 0) })
	add(func(st *impl.Stored) { st.Hash = append(st.Hash, st.Hash...) })
	add(func(st *impl.Stored) { st.Hash = append([]byte{0}, st.Hash...) })
	add(func(st *impl.Stored) { st.Hash = make([]byte, 16) })
	add(func(st *impl.Stored) { st.Hash = make([]byte, 100000) })
	for _, salt := range []string{"", "sal", "salt ", "Salt", "\x00salt", strings.Repeat("s", 64), strings.Repeat("s", 65), strings.Repeat("s", 30000)} {
		add(func(st *impl.Stored) { st.Salt = []byte(salt) })
		add(func(st *impl.Stored) { st.Salt, st.Hash = []byte(salt), nil })
	}
	for _, rounds := range []int{math.MinInt, -3, -1, 0, 1, 2, 4, 1000, 1001, math.MaxInt} {
		add(func(st *impl.Stored) { st.Rounds = rounds })
		add(func(st *impl.Stored) { st.Rounds, st.Hash = rounds, nil })
		add(func(st *impl.Stored) { st.Rounds, st.Hash = rounds, []byte{} })
	}
	return append(all, impl.Stored{})
}

// plainPassRule asks for much, and has every limit met in some list.
func plainPassRule() impl.PassRule {
	return impl.PassRule{Least: 8, Kinds: 3, Banned: []string{"pass", "1234", "Org"}, Kept: 2}
}

func countedBanned(many int) []string {
	var banned []string
	for i := range many {
		banned = append(banned, "w"+strconv.Itoa(100+i))
	}
	return banned
}

// goodPassRules meet the limits, each alone and all together.
func goodPassRules() []impl.PassRule {
	r := plainPassRule()
	return []impl.PassRule{
		r, {Least: 1}, {Least: 64}, {Least: 1, Kinds: 4}, {Least: 1, Kept: 10}, {Least: 1, Banned: countedBanned(20)},
		{Least: 1, Banned: []string{strings.Repeat("b", 64), "b", "\x00", "\xff"}},
		{Least: 1, Banned: slices.Repeat([]string{strings.Repeat("~", 64)}, 20)},
		{Least: 64, Kinds: 4, Banned: countedBanned(20), Kept: 10},
	}
}

// badPassRules have each one thing that is not as said.
func badPassRules() []impl.PassRule {
	bad := []impl.PassRule{{}}
	add := func(change func(r *impl.PassRule)) {
		r := plainPassRule()
		change(&r)
		bad = append(bad, r)
	}
	for _, num := range []int{math.MinInt, -64, -1, 0, 65, 1000, math.MaxInt} {
		add(func(r *impl.PassRule) { r.Least = num })
	}
	for _, num := range []int{math.MinInt, -4, -1, 5, 64, math.MaxInt} {
		add(func(r *impl.PassRule) { r.Kinds = num })
	}
	for _, num := range []int{math.MinInt, -10, -1, 11, 20, math.MaxInt} {
		add(func(r *impl.PassRule) { r.Kept = num })
	}
	for _, many := range []int{21, 22, 5000} {
		add(func(r *impl.PassRule) { r.Banned = slices.Repeat([]string{"w"}, many) })
	}
	for _, text := range []string{"", strings.Repeat("b", 65), strings.Repeat("b", 100000)} {
		for at := range 3 {
			add(func(r *impl.PassRule) { r.Banned[at] = text })
		}
		add(func(r *impl.PassRule) { r.Banned = []string{text} })
	}
	return bad
}

func drawnText(from *rand.Rand, letters string, most int) string {
	text := make([]byte, from.Intn(most+1))
	for i := range text {
		text[i] = letters[from.Intn(len(letters))]
	}
	return string(text)
}

// passCase is all that PassFaults takes.
type passCase struct {
	rule impl.PassRule
	user string
	pass string
	old  []impl.Stored
}

// drawnPassCase draws from few letters, so that texts stand in each other; a few cases are beyond a limit.
func drawnPassCase(from *rand.Rand) passCase {
	letters := oneOf(from, []string{"aA", "abAB", "aB1-", "aA1 \x00", "aA\xe1\xc1", "abcdeABCDE012-."})
	c := passCase{rule: impl.PassRule{Least: 1 + from.Intn(9), Kinds: from.Intn(5), Kept: from.Intn(5)}}
	for range from.Intn(4) {
		c.rule.Banned = append(c.rule.Banned, "a"+drawnText(from, letters, 3))
	}
	c.user, c.pass = drawnText(from, letters, 5), drawnText(from, letters, 12)
	for range from.Intn(6) {
		c.old = append(c.old, storedOf(oneOf(from, []string{c.pass, c.user, drawnText(from, letters, 3)}), "s", 1+from.Intn(3)))
	}
	switch from.Intn(12) {
	case 0:
		c.pass = strings.Repeat(c.pass+"x", 12)
	case 1:
		c.rule.Least = oneOf(from, []int{0, 1, 64, 65})
	case 2:
		c.rule.Kinds = oneOf(from, []int{-1, 0, 4, 5})
	case 3:
		c.rule.Kept = oneOf(from, []int{-1, 0, 10, 11})
	}
	return c
}

func codeSecrets() [][]byte {
	return [][]byte{{0}, {255}, []byte("k"), []byte("key"), {0, 0}, []byte("\x00key"), bytes.Repeat([]byte("k"), 63), bytes.Repeat([]byte("k"), 64)}
}

func badCodeSecrets() [][]byte {
	return [][]byte{nil, {}, bytes.Repeat([]byte("k"), 65), make([]byte, 65), make([]byte, 30000)}
}

// codeCounters have ones in each of their bytes, and are at both ends.
func codeCounters() []int {
	return []int{0, 1, 2, 255, 256, 65535, 65536, 1<<24 - 1, 1 << 24, 1<<32 - 1, 1 << 32, 1<<32 + 1, 1 << 39, 123456789012, 1e12 - 51, 1e12 - 50, 1e12 - 1, 1e12}
}

func badCodeCounters() []int {
	return []int{math.MinInt, -1e12, -1 << 32, -1, 1e12 + 1, 1e12 + 50, 1 << 40, 1 << 62, math.MaxInt - 50, math.MaxInt}
}

// throttleFails are both ends, what lies one beyond, and those by which a lock grows.
func throttleFails() []int {
	fails := []int{math.MinInt, -1, 999998, 999999, 1e6, 1e6 + 1, math.MaxInt}
	for num := range 16 {
		fails = append(fails, num)
	}
	return fails
}

// throttleTimes are the ends of Until and Last, those of a time, what lies one beyond, and neighbours.
func throttleTimes() []int {
	return []int{math.MinInt, -1, 0, 1, 99, 100, 101, 1e11 - 1, 1e11, 1e11 + 1, 1e11 + 3599, 1e11 + 3600, 1e11 + 3601, math.MaxInt}
}

// drawnTries are mostly a bit later than what was ahead of them, and often just when a lock ends or one ahead of that.
func drawnTries(from *rand.Rand, many int) []impl.Try {
	var list []impl.Try
	time := 0
	for range many {
		time += oneOf(from, []int{0, 0, 1, 5, 9, 10, 11, 19, 20, 21, 39, 40, 80, 160, 320, 640, 1280, 2560, 3599, 3600, 5120})
		try := impl.Try{Time: time, Right: from.Intn(9) == 0}
		switch from.Intn(30) {
		case 0:
			try.Time -= 1 + from.Intn(20)
		case 1:
			try.Time = oneOf(from, []int{math.MinInt, -1, 0, 1e11, 1e11 + 1, math.MaxInt})
		}
		list = append(list, try)
	}
	return list
}

// answerCase is all that CheckAnswer takes, with the secret of the key.
type answerCase struct {
	secret    int
	key       impl.HardKey
	challenge []byte
	answer    impl.Answer
}

// plainAnswerCase is one that is taken.
func plainAnswerCase() answerCase {
	challenge := []byte("challenge")
	return answerCase{
		secret:    4711,
		key:       impl.HardKey{Public: impl.PublicOf(4711), Origin: "shop.example", Counter: 3},
		challenge: challenge,
		answer:    answerByWords(4711, "shop.example", challenge, 7),
	}
}

func badOrigins() []string {
	return []string{"", strings.Repeat("o", 101), strings.Repeat("o", 100000)}
}

func badChallenges() [][]byte {
	return [][]byte{make([]byte, 101), bytes.Repeat([]byte("c"), 20000), make([]byte, 20001), make([]byte, 100000)}
}

func badKeyCounters() []int {
	return []int{math.MinInt, -1e9, -1, 1e9 + 1, 1 << 32, 1<<32 + 7, math.MaxInt}
}

// badPublics are numbers that no secret has: the last ones are no powers of Base.
func badPublics() []int {
	return []int{math.MinInt, -4, -1, 0, 1, impl.Prime, impl.Prime + 4, math.MaxInt, impl.Prime - 1, impl.Prime - 4, impl.Prime - impl.PublicOf(4711), 2*impl.Prime - 1}
}

// recoverCase is all that RunRecovery takes.
type recoverCase struct {
	need    int
	delay   int
	helpers []string
	events  []impl.RecoverEvent
}

func plainRecoverCase() recoverCase {
	return recoverCase{2, 10, []string{"bob", "cy", "dan"}, recoverOf(
		"1 ask", "2 vote bob", "3 vote bob", "3 vote eve", "4 ask", "5 take", "6 vote dan", "10 take", "11 take", "11 stop",
		"12 ask", "13 vote bob", "14 stop", "15 ask", "15 vote cy", "30 take", "31 vote bob", "30 take", "31 take",
	)}
}

func countedHelpers(many int) []string {
	var helpers []string
	for i := range many {
		helpers = append(helpers, "h"+strconv.Itoa(10+i))
	}
	return helpers
}

// badHelpers are lists that are too long, do not rise, or have what is no name.
func badHelpers() [][]string {
	bad := [][]string{countedHelpers(11), countedHelpers(5000), {"b", "a"}, {"a", "a"}, {"a", "b", "b"}, {"a", "c", "b"}, {"a", "B"}, {"b", "c", "a"}}
	for _, word := range badWords() {
		bad = append(bad, []string{word}, slices.Sorted(slices.Values([]string{"bob", word})))
	}
	return bad
}

// drawnRecovery is mostly of events that come in time; now and then one is not as said.
func drawnRecovery(from *rand.Rand, many int) recoverCase {
	helpers := []string{"a", "b", "c", "d"}[:oneOf(from, []int{0, 1, 2, 3, 3, 4, 4, 4})]
	c := recoverCase{1 + from.Intn(3), from.Intn(9), helpers, nil}
	time := 0
	for range many {
		time += oneOf(from, []int{0, 0, 0, 1, 1, 2, 4})
		e := impl.RecoverEvent{Kind: oneOf(from, []int{1, 1, 1, 2, 2, 2, 2, 2, 2, 3, 4, 4}), Time: time}
		if e.Kind == impl.RecoverVote {
			e.Who = oneOf(from, []string{"a", "a", "b", "b", "c", "d", "eve", ""})
		}
		switch from.Intn(40) {
		case 0:
			e.Time -= 1 + from.Intn(4)
		case 1:
			e.Kind = oneOf(from, []int{math.MinInt, -1, 0, 5, math.MaxInt})
		case 2:
			e.Who = "a"
		case 3:
			e.Time = oneOf(from, []int{math.MinInt, -1, 1e11 + 1, math.MaxInt})
		}
		c.events = append(c.events, e)
	}
	return c
}
