package tests

import (
	"encoding/binary"
	"fmt"
	"math"
	"regexp"
	"slices"
	"strings"

	"loop.example/g00036/impl"
)

// What the document says of chapter 16, worked out in other ways than the program does: hashes from the last round back to the first, letters held against each other byte by byte, codes that are printed, windows gone through from their end, locks as floats, tries and recoveries looked up anew in what was done ahead of them.

const smallLetters = "abcdefghijklmnopqrstuvwxyz"
const bothSizes = smallLetters + "ABCDEFGHIJKLMNOPQRSTUVWXYZ"

var unprinted = regexp.MustCompile(`[^ -~]`)

func passHashByWords(pass string, salt []byte, rounds int) []byte {
	switch {
	case len(pass) > 64, len(salt) > 64, rounds < 1, rounds > 1000:
		return nil
	case rounds == 1:
		return impl.Mac([]byte(pass), salt)
	}
	return impl.Mac([]byte(pass), passHashByWords(pass, salt, rounds-1))
}

func passCheckByWords(st impl.Stored, pass string) bool {
	hash := passHashByWords(pass, st.Salt, st.Rounds)
	return len(hash) == 16 && string(hash) == string(st.Hash)
}

// sameButSize says whether two bytes are alike, or two sizes of one letter.
func sameButSize(a byte, b byte) bool {
	at := strings.IndexByte(bothSizes, a)
	return a == b || at >= 0 && bothSizes[(at+26)%52] == b
}

func standsInByWords(text string, part string) bool {
	for at := 0; at+len(part) <= len(text); at++ {
		alike := 0
		for i := range len(part) {
			if sameButSize(text[at+i], part[i]) {
				alike++
			}
		}
		if alike == len(part) {
			return true
		}
	}
	return false
}

// sortsByWords is how many of the four sorts of bytes a text has.
func sortsByWords(text string) int {
	var counts [4]int
	for i := range len(text) {
		switch at := strings.IndexByte(bothSizes+"0123456789", text[i]); {
		case at < 0:
			counts[3] = 1
		default:
			counts[at/26] = 1
		}
	}
	return counts[0] + counts[1] + counts[2] + counts[3]
}

func goodPassRuleByWords(r impl.PassRule) bool {
	for _, text := range r.Banned {
		if !isBetween(len(text), 1, 64) {
			return false
		}
	}
	return isBetween(r.Least, 1, 64) && isBetween(r.Kinds, 0, 4) && len(r.Banned) <= 20 && isBetween(r.Kept, 0, 10)
}

func passFaultsByWords(r impl.PassRule, user string, pass string, old []impl.Stored) []int {
	if !goodPassRuleByWords(r) || len(user) > 64 || len(pass) > 1000 || len(old) > 20 {
		return nil
	}
	banned, again := 0, 0
	for _, text := range r.Banned {
		if standsInByWords(pass, text) {
			banned++
		}
	}
	for i, st := range old {
		if i < r.Kept && passCheckByWords(st, pass) {
			again++
		}
	}
	var faults []int
	for i, is := range []bool{
		len(pass) < r.Least,
		len(pass) > 64,
		unprinted.MatchString(pass),
		sortsByWords(pass) < r.Kinds,
		len(user) > 2 && standsInByWords(pass, user),
		banned > 0,
		again > 0,
	} {
		if is {
			faults = append(faults, 1+i)
		}
	}
	return faults
}

func codeByWords(secret []byte, counter int, digits int) string {
	if !isBetween(len(secret), 1, 64) || !isBetween(counter, 0, 1e12) || !isBetween(digits, 4, 8) {
		return ""
	}
	num := numberByWords(impl.Mac(secret, binary.LittleEndian.AppendUint64(nil, uint64(counter))))
	return fmt.Sprintf("%0*d", digits, num%int(math.Pow10(digits)))
}

func checkCodeByWords(secret []byte, counter int, window int, digits int, code string) (int, bool) {
	if codeByWords(secret, counter, digits) == "" || !isBetween(window, 0, 50) {
		return 0, false
	}
	next := 0
	for num := min(counter+window, 1e12); num >= counter; num-- {
		if codeByWords(secret, num, digits) == code {
			next = num + 1
		}
	}
	return next, next > 0
}

func checkTimedByWords(secret []byte, time int, last int, digits int, code string) (int, bool) {
	if codeByWords(secret, 0, digits) == "" || !isBetween(time, 0, 1e11) || !isBetween(last, -1, 1e11) {
		return 0, false
	}
	found := -1
	for _, step := range []int{time/30 + 1, time / 30, time/30 - 1} {
		if step >= 0 && step > last && codeByWords(secret, step, digits) == code {
			found = step
		}
	}
	return max(found, 0), found >= 0
}

func lockByWords(fails int) int {
	return int(math.Min(3600, 10*math.Pow(2, float64(fails-3))))
}

func tryByWords(th impl.Throttle, time int, right bool) (impl.Throttle, int) {
	const latest = 1e11 + 3600
	switch {
	case !isBetween(th.Fails, 0, 1e6), !isBetween(th.Until, 0, latest), !isBetween(th.Last, 0, latest), !isBetween(time, th.Last, 1e11):
		return impl.Throttle{}, -1
	case time < th.Until:
		return th, 2
	case right:
		return impl.Throttle{Fails: 0, Until: 0, Last: time}, 0
	}
	fails := th.Fails + 1
	if fails > 1e6 {
		fails = 1e6
	}
	if fails < 3 {
		return impl.Throttle{Fails: fails, Until: 0, Last: time}, 1
	}
	return impl.Throttle{Fails: fails, Until: time + lockByWords(fails), Last: time}, 1
}

// outcomeOfTry looks up, in what was tried ahead, how many went wrong in a row and when something was tried that was not locked.
func outcomeOfTry(ahead []impl.Try, outcomes []int, try impl.Try) int {
	last, wrong := 0, 0
	for i, outcome := range outcomes {
		switch outcome {
		case 0:
			last, wrong = ahead[i].Time, 0
		case 1:
			last, wrong = ahead[i].Time, wrong+1
		}
	}
	switch {
	case try.Time < last, try.Time > 1e11:
		return -1
	case wrong >= 3 && try.Time < last+lockByWords(wrong):
		return 2
	case try.Right:
		return 0
	}
	return 1
}

func runTriesByWords(list []impl.Try) []int {
	if len(list) > 1000 {
		return nil
	}
	var outcomes []int
	for i, try := range list {
		outcomes = append(outcomes, outcomeOfTry(list[:i], outcomes, try))
	}
	return outcomes
}

// answerDataByWords are the 36 bytes that an answer signs.
func answerDataByWords(origin string, challenge []byte, counter int) []byte {
	return slices.Concat(digestByWords([]byte(origin)), digestByWords(challenge), fourBytes(counter))
}

func answerByWords(secret int, origin string, challenge []byte, counter int) impl.Answer {
	if !isBetween(secret, 1, impl.Order-1) || !isBetween(len(origin), 1, 100) || len(challenge) > 100 || !isBetween(counter, 0, 1e9) {
		return impl.Answer{}
	}
	return impl.Answer{Origin: origin, Counter: counter, Sig: signByWords(secret, answerDataByWords(origin, challenge, counter))}
}

func checkAnswerByWords(key impl.HardKey, challenge []byte, a impl.Answer) (impl.HardKey, int) {
	public := isBetween(key.Public, 2, impl.Prime-1) && powerByWords(key.Public, impl.Order, impl.Prime) == 1
	switch {
	case !isBetween(len(key.Origin), 1, 100), !isBetween(key.Counter, 0, 1e9), len(challenge) > 100, !isBetween(a.Counter, 0, 1e9), !public:
		return impl.HardKey{}, 1
	case key.Origin != a.Origin:
		return impl.HardKey{}, 2
	case key.Counter >= a.Counter:
		return impl.HardKey{}, 3
	case !verifyByWords(key.Public, answerDataByWords(key.Origin, challenge, a.Counter), a.Sig):
		return impl.HardKey{}, 4
	}
	return impl.HardKey{Public: key.Public, Origin: key.Origin, Counter: a.Counter}, 0
}

// underWayByWords is what was done from the beginning of the recovery on that is under way; none where none is.
func underWayByWords(done []impl.RecoverEvent) []impl.RecoverEvent {
	for at := len(done) - 1; at >= 0; at-- {
		switch done[at].Kind {
		case impl.RecoverStop, impl.RecoverTake:
			return nil
		case impl.RecoverAsk:
			return done[at:]
		}
	}
	return nil
}

func outcomeOfRecover(need int, delay int, helpers []string, done []impl.RecoverEvent, e impl.RecoverEvent) int {
	under := underWayByWords(done)
	var votes []string
	for _, other := range under {
		if other.Kind == impl.RecoverVote {
			votes = append(votes, other.Who)
		}
	}
	switch {
	case !isBetween(e.Kind, 1, 4), !isBetween(e.Time, 0, 1e11), e.Who != "" && e.Kind != impl.RecoverVote:
		return 1
	case slices.ContainsFunc(done, func(other impl.RecoverEvent) bool { return other.Time > e.Time }):
		return 2
	case e.Kind == impl.RecoverAsk && under != nil, e.Kind != impl.RecoverAsk && under == nil:
		return 3
	case e.Kind == impl.RecoverVote && !slices.Contains(helpers, e.Who):
		return 4
	case e.Kind == impl.RecoverVote && slices.Contains(votes, e.Who):
		return 5
	case e.Kind == impl.RecoverTake && len(votes) < need:
		return 6
	case e.Kind == impl.RecoverTake && e.Time < under[0].Time+delay:
		return 7
	}
	return 0
}

func recoveryByWords(need int, delay int, helpers []string, events []impl.RecoverEvent) []int {
	if !isBetween(need, 1, 10) || !isBetween(delay, 0, 1e11) || len(helpers) > 10 || !areNamesByWords(helpers) || len(events) > 200 {
		return nil
	}
	var outcomes []int
	var done []impl.RecoverEvent
	for _, e := range events {
		outcome := outcomeOfRecover(need, delay, helpers, done, e)
		if outcome == 0 {
			done = append(done, e)
		}
		outcomes = append(outcomes, outcome)
	}
	return outcomes
}
