package tests

import (
	"bytes"
	"encoding/hex"
	"math"
	"slices"
	"strconv"
	"strings"
	"testing"

	"loop.example/g00036/impl"
)

func askHash(t *testing.T, pass string, salt []byte, rounds int) []byte {
	t.Helper()
	got := impl.PassHash(pass, salt, rounds)
	if want := passHashByWords(pass, salt, rounds); !bytes.Equal(got, want) {
		t.Errorf("PassHash(%.80q, %.80q, %d): got %x, want %x", pass, salt, rounds, got, want)
	}
	return got
}

func askPassCheck(t *testing.T, st impl.Stored, pass string, want bool) {
	t.Helper()
	if words := passCheckByWords(st, pass); words != want {
		t.Errorf("the words take %.200s, %.80q: %v", shown(st), pass, words)
	}
	if got := impl.PassCheck(st, pass); got != want {
		t.Errorf("PassCheck(%.200s, %.80q): got %v", shown(st), pass, got)
	}
}

func TestProofConstants(t *testing.T) {
	got := []int{
		impl.MaxPass, impl.MaxRounds,
		impl.PassShort, impl.PassLong, impl.PassBytes, impl.PassKinds, impl.PassUser, impl.PassBanned, impl.PassOld,
		impl.TryIn, impl.TryWrong, impl.TryLocked,
		impl.RecoverAsk, impl.RecoverVote, impl.RecoverStop, impl.RecoverTake,
	}
	if want := []int{64, 1000, 1, 2, 3, 4, 5, 6, 7, 0, 1, 2, 1, 2, 3, 4}; !slices.Equal(got, want) {
		t.Errorf("got %v, want %v", got, want)
	}
}

// The first round is the Mac of the pass and the salt, worked out here with numbers of any length.
func TestPassHashRoundByRound(t *testing.T) {
	for _, pass := range []string{"", "p", "Secret-7", "\x00\xff", strings.Repeat("p", 64)} {
		for _, salt := range []string{"", "salt", strings.Repeat("\xff", 64)} {
			want := []byte(salt)
			for rounds := 1; rounds <= 4; rounds++ {
				want = macByWords([]byte(pass), want)
				if got := askHash(t, pass, []byte(salt), rounds); !bytes.Equal(got, want) {
					t.Errorf("%q with %q, %d rounds: got %x, want %x", pass, salt, rounds, got, want)
				}
			}
		}
	}
}

func TestPassHashGoesOn(t *testing.T) {
	hash := askHash(t, "Secret-7", []byte("salt"), 1)
	for rounds := 2; rounds <= 1000; rounds++ {
		next := impl.PassHash("Secret-7", []byte("salt"), rounds)
		if !bytes.Equal(next, impl.Mac([]byte("Secret-7"), hash)) {
			t.Fatalf("%d rounds: got %x", rounds, next)
		}
		hash = next
	}
	// A hash as salt goes on as the rounds do.
	if got := impl.PassHash("Secret-7", impl.PassHash("Secret-7", []byte("salt"), 400), 600); !bytes.Equal(got, hash) {
		t.Errorf("600 rounds behind 400: got %x, want %x", got, hash)
	}
}

func TestPassHashLimits(t *testing.T) {
	for _, length := range []int{0, 1, 63, 64} {
		for _, rounds := range []int{1, 2, 999, 1000} {
			if len(askHash(t, strings.Repeat("p", length), []byte("salt"), rounds)) != 16 || len(askHash(t, "p", bytes.Repeat([]byte("s"), length), rounds)) != 16 {
				t.Errorf("%d bytes, %d rounds: want a hash", length, rounds)
			}
		}
	}
	if len(askHash(t, "", nil, 1)) != 16 || len(askHash(t, strings.Repeat("p", 64), make([]byte, 64), 1000)) != 16 {
		t.Errorf("all at their ends: want a hash")
	}
	for _, length := range []int{65, 66, 1000, 20000, 20001, 100000} {
		if askHash(t, strings.Repeat("p", length), []byte("salt"), 2) != nil || askHash(t, "p", make([]byte, length), 2) != nil || askHash(t, "p", make([]byte, length), 1) != nil {
			t.Errorf("%d bytes: want none", length)
		}
	}
	for _, rounds := range []int{math.MinInt, -1000, -1, 0, 1001, 1002, 1 << 32, math.MaxInt} {
		if askHash(t, "p", []byte("salt"), rounds) != nil || askHash(t, "", nil, rounds) != nil {
			t.Errorf("%d rounds: want none", rounds)
		}
	}
}

// Promise 16: a pass is taken by what was stored of it alone. Digests of these do not clash.
func TestAPassIsTakenByWhatWasStoredOfItAlone(t *testing.T) {
	passes := passTexts()
	for i, pass := range passes {
		for j, salt := range passSalts() {
			st := impl.Stored{Salt: []byte(salt), Rounds: 1 + (i+j)%5}
			st.Hash = impl.PassHash(pass, st.Salt, st.Rounds)
			for _, other := range passes {
				askPassCheck(t, st, other, other == pass)
			}
		}
	}
}

func TestPassesThatAreShort(t *testing.T) {
	seen := map[string]string{}
	for _, pass := range textsOver("abAB01 -", 4) {
		hash := string(impl.PassHash(pass, []byte("salt"), 1))
		if other, ok := seen[hash]; ok {
			t.Errorf("%q and %q are stored alike", pass, other)
		}
		seen[hash] = pass
	}
}

// Where digests clash one pass does for another: no more of it was stored.
func TestPassesWhoseDigestsClash(t *testing.T) {
	one, other := clashingTexts()
	for _, rounds := range []int{1, 2, 50} {
		askPassCheck(t, storedOf("a"+one+"-1", "salt", rounds), "a"+other+"-1", true)
		askPassCheck(t, storedOf("a"+one+"-1", "salt", rounds), "a"+other+"-2", false)
		wantFaults(t, passCase{rule: impl.PassRule{Least: 1, Kept: 1}, pass: other, old: []impl.Stored{storedOf(one, "salt", rounds)}}, impl.PassOld)
	}
}

func TestPassCheckTakesNothingElse(t *testing.T) {
	for _, pass := range []string{"Secret-7", "", strings.Repeat("p", 64)} {
		askPassCheck(t, storedOf(pass, "salt", 3), pass, true)
		for _, st := range otherStored(pass) {
			askPassCheck(t, st, pass, false)
		}
	}
	for _, rounds := range []int{1, 2, 1000} {
		askPassCheck(t, storedOf("p", "", rounds), "p", true)
		askPassCheck(t, storedOf("p", strings.Repeat("s", 64), rounds), "p", true)
	}
	// What has no hash is taken by no pass, not even by one that has none either.
	long := strings.Repeat("p", 65)
	for _, st := range []impl.Stored{{}, {Hash: []byte{}}, {Rounds: 1}, {Rounds: 1, Hash: []byte{}}, storedOf(long, "s", 1), storedOf("p", "s", 0), storedOf("p", long, 1)} {
		for _, pass := range []string{"", "p", long, strings.Repeat("p", 100000)} {
			askPassCheck(t, st, pass, false)
		}
	}
	// What comes from a pass that is too long is no hash, whoever worked it out.
	askPassCheck(t, impl.Stored{Salt: []byte("s"), Rounds: 1, Hash: impl.Mac([]byte(long), []byte("s"))}, long, false)
	askPassCheck(t, impl.Stored{Salt: []byte(long), Rounds: 1, Hash: impl.Mac([]byte("p"), []byte(long))}, "p", false)
	askPassCheck(t, impl.Stored{Salt: []byte("s"), Rounds: 0, Hash: []byte("s")}, "p", false)
}

func askFaults(t *testing.T, c passCase) []int {
	t.Helper()
	got := impl.PassFaults(c.rule, c.user, c.pass, c.old)
	if want := passFaultsByWords(c.rule, c.user, c.pass, c.old); !slices.Equal(got, want) {
		t.Errorf("PassFaults(%.300s, %.80q, %.80q, %d old ones): got %v, want %v", shown(c.rule), c.user, c.pass, len(c.old), got, want)
	}
	return got
}

func wantFaults(t *testing.T, c passCase, want ...int) {
	t.Helper()
	if got := askFaults(t, c); !slices.Equal(got, want) {
		t.Errorf("%.300s, %.80q, %.80q: got %v, want %v", shown(c.rule), c.user, c.pass, got, want)
	}
}

func TestPassFaults(t *testing.T) {
	long := strings.Repeat("aB3-", 17)
	for _, told := range []struct {
		rule impl.PassRule
		user string
		pass string
		old  []string
		want []int
	}{
		{plainPassRule(), "ann", "Good-Word", nil, nil},
		{plainPassRule(), "ann", "Good-Word", []string{"Other-Word", "Good-word"}, nil},
		{plainPassRule(), "ann", "Go-Wo", nil, []int{1}},
		{plainPassRule(), "xyz", long, nil, []int{2}},
		{plainPassRule(), "ann", "Good\nWord", nil, []int{3}},
		{plainPassRule(), "ann", "goodword9", nil, []int{4}},
		{plainPassRule(), "ann", "Good-Ann-9", nil, []int{5}},
		{plainPassRule(), "ann", "Good-1234", nil, []int{6}},
		{plainPassRule(), "ann", "Good-Word", []string{"Good-Word"}, []int{7}},
		{plainPassRule(), "ann", "", nil, []int{1, 4}},
		{plainPassRule(), "good", "\x7fgood12345", nil, []int{3, 5, 6}},
		{impl.PassRule{Least: 64, Kinds: 4, Banned: []string{"n\x00A"}, Kept: 1}, "ANN", "ann\x00a", []string{"ann\x00a"}, []int{1, 3, 4, 5, 6, 7}},
		{impl.PassRule{Least: 64, Kinds: 4, Banned: []string{"n\x00A"}, Kept: 1}, "ANN", strings.Repeat("ann\x00a", 20), []string{strings.Repeat("ann\x00a", 20)}, []int{2, 3, 4, 5, 6}},
		{impl.PassRule{Least: 1}, "", "", nil, []int{1}},
		{impl.PassRule{Least: 1}, "", "a", nil, nil},
	} {
		wantFaults(t, passCase{told.rule, told.user, told.pass, storedAll(told.old...)}, told.want...)
	}
}

func TestPassFaultsOfLengths(t *testing.T) {
	for length := range 70 {
		pass := strings.Repeat("p", length)
		for _, least := range []int{1, 2, 8, 63, 64} {
			var want []int
			if length < least {
				want = append(want, impl.PassShort)
			}
			if length > 64 {
				want = append(want, impl.PassLong)
			}
			wantFaults(t, passCase{rule: impl.PassRule{Least: least}, pass: pass}, want...)
		}
	}
	for _, length := range []int{999, 1000} {
		wantFaults(t, passCase{rule: impl.PassRule{Least: 64, Kinds: 1}, pass: strings.Repeat("p", length)}, impl.PassLong)
		wantFaults(t, passCase{rule: impl.PassRule{Least: 64, Kinds: 2}, user: "ppp", pass: strings.Repeat("p", length)}, impl.PassLong, impl.PassKinds, impl.PassUser)
	}
	for _, length := range []int{1001, 1002, 100000} {
		wantFaults(t, passCase{rule: impl.PassRule{Least: 64, Kinds: 2}, user: "ppp", pass: strings.Repeat("p", length)})
	}
}

func TestPassFaultsOfBytes(t *testing.T) {
	for c := range 256 {
		single := string([]byte{byte(c)})
		for _, pass := range []string{single, "Aa0" + single, single + "Aa0", "A" + single + "0"} {
			var want []int
			if c < 32 || c > 126 {
				want = append(want, impl.PassBytes)
			}
			wantFaults(t, passCase{rule: impl.PassRule{Least: 1}, pass: pass}, want...)
			for kinds := range 5 {
				askFaults(t, passCase{rule: impl.PassRule{Least: 1, Kinds: kinds}, pass: pass})
			}
		}
		isPlain := 'a' <= c && c <= 'z' || 'A' <= c && c <= 'Z' || '0' <= c && c <= '9'
		got := askFaults(t, passCase{rule: impl.PassRule{Least: 1, Kinds: 4}, pass: "aZ9" + single})
		if slices.Contains(got, impl.PassKinds) != isPlain {
			t.Errorf("%q: got %v", single, got)
		}
	}
}

func TestPassFaultsOfKinds(t *testing.T) {
	for _, told := range []struct {
		pass string
		many int
	}{
		{"", 0}, {"a", 1}, {"Z", 1}, {"5", 1}, {"-", 1}, {" ", 1}, {"\x00", 1}, {"\xff\xfe", 1}, {"abcxyz", 1}, {"é", 1},
		{"aA", 2}, {"a1", 2}, {"a-", 2}, {"A1", 2}, {"A-", 2}, {"1-", 2}, {"az09", 2}, {"a\x80", 2},
		{"aA1", 3}, {"aA-", 3}, {"a1-", 3}, {"A1-", 3}, {"aA1-", 4}, {"-1Aa", 4}, {"aaAA11--", 4}, {"zZ9~", 4}, {"zZ9\x00", 4},
	} {
		for kinds := range 5 {
			got := askFaults(t, passCase{rule: impl.PassRule{Least: 1, Kinds: kinds}, pass: told.pass})
			if slices.Contains(got, impl.PassKinds) != (told.many < kinds) {
				t.Errorf("%q with Kinds %d: got %v", told.pass, kinds, got)
			}
		}
	}
}

// partRowsOfPasses tell whether a text stands in a pass, whatever the size of its letters.
func partRowsOfPasses() []struct {
	pass, part string
	want       bool
} {
	return []struct {
		pass, part string
		want       bool
	}{
		{"xannx", "ann", true}, {"ann", "ann", true}, {"annx", "ann", true}, {"xann", "ann", true}, {"aann", "ann", true}, {"anann", "ann", true},
		{"ANN", "ann", true}, {"ann", "ANN", true}, {"aNn", "AnN", true}, {"xyz", "XYZ", true}, {"AZ-az", "az-AZ", true},
		{"an", "ann", false}, {"", "ann", false}, {"nna", "ann", false}, {"a-nn", "ann", false}, {"ana", "ann", false}, {"bann", "annb", false},
		{"a@[`{b", "A@[`{B", true}, {"[[[", "{{{", false}, {"@@@", "```", false}, {"```", "@@@", false}, {"{{{", "[[[", false}, {"AAA[", "aaa{", false},
		{"111", "qqq", false}, {"\x01\x01\x01", "AAA", false}, {"\x01\x01\x01", "\x21\x21\x21", false}, {"\xe1\xe1\xe1", "\xc1\xc1\xc1", false}, {"\xc1\xc1\xc1", "\xe1\xe1\xe1", false},
		{"straße", "STRASSE", false}, {"straße", "STRAßE", true}, {"éàü", "ÉÀÜ", false}, {"éàü", "éàü", true}, {"ſſſ", "sss", false}, {"ſſſ", "SSS", false}, {"\u212a\u212a\u212a", "kkk", false}, {"ııı", "III", false},
		{"\xff\xff\xff", "\xff\xff\xff", true}, {"\xff\xfe\xfd", "\xef\xbf\xbd", false}, {"\xef\xbf\xbd", "\xff\xff\xff", false}, {"a\xffb\x00c", "A\xffB\x00C", true}, {"a\xffb", "A\xfeB", false},
	}
}

func TestPassFaultsOfUsersAndBannedTexts(t *testing.T) {
	for _, told := range partRowsOfPasses() {
		byUser := askFaults(t, passCase{rule: impl.PassRule{Least: 1}, user: told.part, pass: told.pass})
		if slices.Contains(byUser, impl.PassUser) != told.want || slices.Contains(byUser, impl.PassBanned) {
			t.Errorf("user %q, pass %q: got %v", told.part, told.pass, byUser)
		}
		for _, banned := range [][]string{{told.part}, {"never", told.part}, {told.part, "never"}, {"never", told.part, told.part, "other"}} {
			got := askFaults(t, passCase{rule: impl.PassRule{Least: 1, Banned: banned}, pass: told.pass})
			if slices.Contains(got, impl.PassBanned) != told.want || slices.Contains(got, impl.PassUser) {
				t.Errorf("banned %q, pass %q: got %v", banned, told.pass, got)
			}
		}
	}
	for c := range 256 {
		for d := range 256 {
			one, other := strings.Repeat(string([]byte{byte(c)}), 3), strings.Repeat(string([]byte{byte(d)}), 3)
			got := impl.PassFaults(impl.PassRule{Least: 1, Banned: []string{other}}, other, one, nil)
			alike := sameButSize(byte(c), byte(d))
			if slices.Contains(got, impl.PassUser) != alike || slices.Contains(got, impl.PassBanned) != alike {
				t.Errorf("%q, %q: got %v", one, other, got)
			}
		}
	}
}

func TestPassFaultsOfShortAndLongUsers(t *testing.T) {
	rule := impl.PassRule{Least: 1}
	for _, user := range []string{"", "a", "an", "AN", "nn"} {
		wantFaults(t, passCase{rule: rule, user: user, pass: "ann-ann"})
	}
	for _, user := range []string{"ann", "Nn-", "ann-", "ann-ann"} {
		wantFaults(t, passCase{rule: rule, user: user, pass: "ann-ann"}, impl.PassUser)
	}
	whole := strings.Repeat("u", 64)
	wantFaults(t, passCase{rule: rule, user: whole, pass: whole}, impl.PassUser)
	wantFaults(t, passCase{rule: rule, user: whole, pass: whole[1:]})
	wantFaults(t, passCase{rule: rule, user: whole, pass: whole + "u"}, impl.PassLong, impl.PassUser)
	// Beyond the limit there is no answer at all, though the pass is short.
	for _, user := range []string{whole + "u", strings.Repeat("u", 100000)} {
		wantFaults(t, passCase{rule: impl.PassRule{Least: 2}, user: user, pass: "a"})
	}
}

func TestPassFaultsOfRules(t *testing.T) {
	for _, r := range goodPassRules() {
		if !slices.Contains(askFaults(t, passCase{rule: r}), impl.PassShort) {
			t.Errorf("%.200s: want an empty pass to be short", shown(r))
		}
		for _, pass := range passTexts() {
			askFaults(t, passCase{r, "pass", pass, storedAll(pass)})
		}
	}
	for _, r := range badPassRules() {
		for _, pass := range []string{"", "pass1234", "Good-Word", strings.Repeat("p", 65)} {
			wantFaults(t, passCase{r, "pass", pass, storedAll(pass)})
		}
	}
	wantFaults(t, passCase{rule: impl.PassRule{Least: 1, Banned: countedBanned(20)}, pass: "W119"}, impl.PassBanned)
	wantFaults(t, passCase{rule: impl.PassRule{Least: 1, Banned: countedBanned(20)}, pass: "W100"}, impl.PassBanned)
	wantFaults(t, passCase{rule: impl.PassRule{Least: 1, Banned: countedBanned(20)}, pass: "W120"})
	wantFaults(t, passCase{rule: impl.PassRule{Least: 1, Banned: countedBanned(21)}, pass: "W100"})
	whole := strings.Repeat("b", 64)
	wantFaults(t, passCase{rule: impl.PassRule{Least: 1, Banned: []string{whole}}, pass: whole}, impl.PassBanned)
	wantFaults(t, passCase{rule: impl.PassRule{Least: 1, Banned: []string{whole}}, pass: whole[1:]})
	wantFaults(t, passCase{rule: impl.PassRule{Least: 1, Banned: []string{"b"}}, pass: "aBa"}, impl.PassBanned)
	wantFaults(t, passCase{rule: impl.PassRule{Least: 1, Banned: []string{whole + "b"}}, pass: whole + "b"})
	wantFaults(t, passCase{rule: impl.PassRule{Least: 1, Banned: []string{""}}, pass: "a"})
}

func TestPassFaultsOfOldPasses(t *testing.T) {
	var passes []string
	for i := range 20 {
		passes = append(passes, "Pass-"+strconv.Itoa(i))
	}
	all := storedAll(passes...)
	for kept := range 11 {
		for many := range 21 {
			for i, pass := range passes {
				var want []int
				if i < kept && i < many {
					want = []int{impl.PassOld}
				}
				wantFaults(t, passCase{rule: impl.PassRule{Least: 1, Kept: kept}, pass: pass, old: all[:many]}, want...)
			}
		}
	}
	more := append(slices.Clone(all), storedOf("Pass-20", "s", 1))
	wantFaults(t, passCase{rule: impl.PassRule{Least: 9, Kept: 10}, pass: "Pass-0", old: more[:20]}, impl.PassShort, impl.PassOld)
	wantFaults(t, passCase{rule: impl.PassRule{Least: 9, Kept: 10}, pass: "Pass-0", old: more})
	wantFaults(t, passCase{rule: impl.PassRule{Least: 9, Kept: 0}, pass: "Pass-0", old: more})
	// What is stored badly is no old pass; a pass that was stored twice is one fault.
	for _, st := range otherStored("Pass-0") {
		wantFaults(t, passCase{rule: impl.PassRule{Least: 1, Kept: 10}, pass: "Pass-0", old: []impl.Stored{st}})
		wantFaults(t, passCase{rule: impl.PassRule{Least: 1, Kept: 2}, pass: "Pass-0", old: []impl.Stored{st, all[0], all[0]}}, impl.PassOld)
		wantFaults(t, passCase{rule: impl.PassRule{Least: 1, Kept: 1}, pass: "Pass-0", old: []impl.Stored{st, all[0]}})
	}
	// Letters of another size make another pass here.
	wantFaults(t, passCase{rule: impl.PassRule{Least: 1, Kept: 10}, pass: "pass-0", old: all})
	// A pass that is too long for a hash is not old.
	long := strings.Repeat("p", 65)
	wantFaults(t, passCase{rule: impl.PassRule{Least: 1, Kept: 10}, pass: long, old: []impl.Stored{storedOf(long, "s", 1), {Salt: []byte("s"), Rounds: 1, Hash: impl.Mac([]byte(long), []byte("s"))}}}, impl.PassLong)
	wantFaults(t, passCase{rule: impl.PassRule{Least: 1, Kept: 10}, pass: long[1:], old: []impl.Stored{storedOf(long[1:], "s", 1000)}}, impl.PassOld)
}

func TestPassFaultsOfDrawnPasses(t *testing.T) {
	from := drawn()
	seen := [8]int{}
	for range 30000 {
		for _, fault := range askFaults(t, drawnPassCase(from)) {
			seen[fault]++
		}
	}
	if slices.Min(seen[1:]) < 500 {
		t.Errorf("the passes have too few faults of a sort: %v", seen)
	}
}

func askCodeOf(t *testing.T, secret []byte, counter int, digits int) string {
	t.Helper()
	got := impl.CodeOf(secret, counter, digits)
	if want := codeByWords(secret, counter, digits); got != want {
		t.Errorf("CodeOf(%.80q, %d, %d): got %q, want %q", secret, counter, digits, got, want)
	}
	return got
}

func TestCodeOf(t *testing.T) {
	for _, secret := range codeSecrets() {
		for _, counter := range codeCounters() {
			for digits := 4; digits <= 8; digits++ {
				if len(askCodeOf(t, secret, counter, digits)) != digits {
					t.Errorf("%q, %d, %d: want %d digits", secret, counter, digits, digits)
				}
			}
			for _, digits := range []int{math.MinInt, -8, -4, 0, 1, 3, 9, 10, 1 << 32, math.MaxInt} {
				if askCodeOf(t, secret, counter, digits) != "" {
					t.Errorf("%d digits: want none", digits)
				}
			}
		}
		for _, counter := range badCodeCounters() {
			if askCodeOf(t, secret, counter, 6) != "" {
				t.Errorf("counter %d: want none", counter)
			}
		}
	}
	for _, secret := range badCodeSecrets() {
		if askCodeOf(t, secret, 5, 6) != "" {
			t.Errorf("a secret of %d bytes: want none", len(secret))
		}
	}
}

// The number is that of a Mac of numbers of any length, worked out here, and all codes are ends of its digits.
func TestCodesAreTheLastDigits(t *testing.T) {
	zeros := 0
	for counter := range 400 {
		data := append(fourBytes(counter), 0, 0, 0, 0)
		whole := "0000000000" + strconv.Itoa(numberByWords(macByWords([]byte("key"), data)))
		for digits := 4; digits <= 8; digits++ {
			code := askCodeOf(t, []byte("key"), counter, digits)
			if code != whole[len(whole)-digits:] {
				t.Errorf("counter %d: got %q of %q", counter, code, whole)
			}
			if code[0] == '0' {
				zeros++
			}
		}
	}
	if zeros < 100 {
		t.Errorf("only %d codes begin with zeros", zeros)
	}
}

// Codes that begin with several zeros, and one of zeros alone.
func TestCodesThatBeginWithZeros(t *testing.T) {
	most := 0
	for counter := 0; most < 4; counter++ {
		code := impl.CodeOf([]byte("key"), counter, 4)
		if zeros := len(code) - len(strings.TrimLeft(code, "0")); zeros > most {
			most = zeros
			if askCodeOf(t, []byte("key"), counter, 4) != code || !strings.HasSuffix(askCodeOf(t, []byte("key"), counter, 8), code) {
				t.Errorf("counter %d: got %q", counter, code)
			}
			if next, ok := impl.CheckCode([]byte("key"), counter, 0, 4, strings.TrimLeft(code, "0")); ok || next != 0 {
				t.Errorf("%q without its zeros: got %d", code, next)
			}
		}
		if counter > 1000000 {
			t.Fatalf("no code is of zeros alone")
		}
	}
}

func TestCodesTakeAllEightBytes(t *testing.T) {
	counters := append(codeCounters(), 1<<33, 1<<34, 3<<32, 255<<32, 200<<32+5, 5)
	seen := map[string]int{}
	for _, counter := range counters {
		code := askCodeOf(t, []byte("key"), counter, 8)
		if other, ok := seen[code]; ok {
			t.Errorf("%d and %d have one code", counter, other)
		}
		seen[code] = counter
	}
}

func askCode(t *testing.T, secret []byte, counter int, window int, digits int, code string) (int, bool) {
	t.Helper()
	next, ok := impl.CheckCode(secret, counter, window, digits, code)
	if want, good := checkCodeByWords(secret, counter, window, digits, code); next != want || ok != good {
		t.Errorf("CheckCode(%.80q, %d, %d, %d, %.40q): got %d, %v, want %d, %v", secret, counter, window, digits, code, next, ok, want, good)
	}
	return next, ok
}

func wantCode(t *testing.T, secret []byte, counter int, window int, digits int, code string, want int) {
	t.Helper()
	if next, ok := askCode(t, secret, counter, window, digits, code); next != want || ok != (want > 0) {
		t.Errorf("%.80q, %d, %d, %d, %.40q: got %d, %v, want %d", secret, counter, window, digits, code, next, ok, want)
	}
}

func TestCheckCode(t *testing.T) {
	secret := []byte("key")
	code := func(counter int) string { return codeByWords(secret, counter, 8) }
	for _, counter := range []int{0, 1, 5, 1 << 32, 1e12 - 51} {
		for _, window := range []int{0, 1, 2, 49, 50} {
			for ahead := range window + 1 {
				wantCode(t, secret, counter, window, 8, code(counter+ahead), counter+ahead+1)
			}
			wantCode(t, secret, counter, window, 8, code(counter+window+1), 0)
			wantCode(t, secret, counter, window, 8, code(counter-1), 0)
			wantCode(t, secret, counter, window, 8, code(counter + window)[1:], 0)
			wantCode(t, secret, counter, window, 8, code(counter)+"0", 0)
			wantCode(t, secret, counter, window, 8, "", 0)
		}
		for _, window := range []int{math.MinInt, -50, -1, 51, 52, 1000, math.MaxInt} {
			wantCode(t, secret, counter, window, 8, code(counter), 0)
		}
	}
	for digits := 4; digits <= 8; digits++ {
		own := codeByWords(secret, 5, digits)
		wantCode(t, secret, 5, 0, digits, own, 6)
		for other := 3; other <= 9; other++ {
			if other != digits {
				wantCode(t, secret, 5, 0, other, own, 0)
			}
		}
	}
	for _, other := range []string{"key ", "Key", "ke", "\x00key", "k"} {
		wantCode(t, []byte(other), 5, 0, 8, code(5), 0)
	}
}

// Beyond the last counter there are no codes, and the empty text is none.
func TestCheckCodeAtTheLastCounter(t *testing.T) {
	secret := []byte("key")
	for _, from := range []int{1e12 - 50, 1e12 - 49, 1e12 - 1, 1e12} {
		wantCode(t, secret, from, 50, 8, codeByWords(secret, 1e12, 8), 1e12+1)
		wantCode(t, secret, from, 50, 8, codeByWords(secret, from, 8), from+1)
		wantCode(t, secret, from, 50, 8, "", 0)
		for beyond := 1; beyond <= 50; beyond++ {
			code := impl.Mac(secret, slices.Concat(fourBytes(1e12+beyond), fourBytes((1e12+beyond)>>32)))
			wantCode(t, secret, from, 50, 8, strconv.Itoa(100000000 + numberByWords(code)%100000000)[1:], 0)
		}
	}
	for _, counter := range badCodeCounters() {
		for _, window := range []int{0, 1, 50} {
			for _, code := range []string{"", "00000000", codeByWords(secret, 0, 8), codeByWords(secret, 1e12, 8)} {
				wantCode(t, secret, counter, window, 8, code, 0)
			}
		}
	}
	for _, bad := range badCodeSecrets() {
		wantCode(t, bad, 5, 5, 8, "", 0)
		wantCode(t, bad, 5, 5, 8, "00000000", 0)
	}
	for _, digits := range []int{math.MinInt, -1, 0, 3, 9, math.MaxInt} {
		for _, code := range []string{"", "0", "000", codeByWords(secret, 5, 8), "0" + codeByWords(secret, 5, 8), codeByWords(secret, 5, 4)[1:]} {
			wantCode(t, secret, 5, 50, digits, code, 0)
		}
	}
}

// Promise 16: a code comes next to one counter: what is answered lies one behind the least of those that have the code. Behind that, the code is taken only where another one has it too.
func TestACodeComesNextToOneCounter(t *testing.T) {
	from := drawn()
	clashes, again := 0, 0
	for range 300 {
		secret := drawnBytes(from, 1+from.Intn(64))
		counter, window := oneOf(from, []int{0, 7, 1 << 32, 1e12 - 30})+from.Intn(20), from.Intn(51)
		for num := counter; num <= min(counter+window, 1e12); num++ {
			code := codeByWords(secret, num, 4)
			next, ok := askCode(t, secret, counter, window, 4, code)
			if !ok || next <= counter || next > num+1 || codeByWords(secret, next-1, 4) != code {
				t.Errorf("%x, %d, %d: %q comes next to %d", secret, counter, window, code, next)
			}
			if next <= num {
				clashes++
			}
			if later, ok := askCode(t, secret, next, window, 4, code); ok {
				again++
				if later <= next || codeByWords(secret, later-1, 4) != code {
					t.Errorf("%x, %d, %d: %q comes again next to %d", secret, next, window, code, later)
				}
			}
		}
	}
	if clashes < 10 || again < 10 {
		t.Errorf("only %d codes that two in a window have, %d that are taken again", clashes, again)
	}
}

func askTimed(t *testing.T, secret []byte, time int, last int, digits int, code string) (int, bool) {
	t.Helper()
	step, ok := impl.CheckTimed(secret, time, last, digits, code)
	if want, good := checkTimedByWords(secret, time, last, digits, code); step != want || ok != good {
		t.Errorf("CheckTimed(%.80q, %d, %d, %d, %.40q): got %d, %v, want %d, %v", secret, time, last, digits, code, step, ok, want, good)
	}
	return step, ok
}

// wantTimed takes -1 for a code that is not taken.
func wantTimed(t *testing.T, secret []byte, time int, last int, code string, want int) {
	t.Helper()
	if step, ok := askTimed(t, secret, time, last, 8, code); ok != (want >= 0) || step != max(want, 0) {
		t.Errorf("%.80q, %d, %d, %.40q: got %d, %v, want %d", secret, time, last, code, step, ok, want)
	}
}

func TestCheckTimed(t *testing.T) {
	secret := []byte("key")
	code := func(step int) string { return codeByWords(secret, step, 8) }
	for _, told := range []struct{ time, step int }{
		{0, 0}, {1, 0}, {29, 0}, {30, 1}, {31, 1}, {59, 1}, {60, 2}, {89, 2}, {90, 3}, {3000, 100}, {3029, 100}, {1e11 - 11, 3333333332}, {1e11 - 10, 3333333333}, {1e11, 3333333333},
	} {
		for step := told.step - 3; step <= told.step+3; step++ {
			for last := -1; last <= told.step+3; last++ {
				if last == 0 && told.step > 10 {
					last = told.step - 4
				}
				want := -1
				if step >= 0 && step > last && told.step-1 <= step && step <= told.step+1 {
					want = step
				}
				wantTimed(t, secret, told.time, last, code(step), want)
			}
			wantTimed(t, secret, told.time, 1e11, code(step), -1)
			wantTimed(t, secret, told.time, 1e11+1, code(step), -1)
			wantTimed(t, secret, told.time, -2, code(step), -1)
		}
		wantTimed(t, secret, told.time, -1, "", -1)
		wantTimed(t, secret, told.time, -1, code(told.step)[1:], -1)
		wantTimed(t, secret, told.time, -1, code(told.step)+"0", -1)
	}
}

func TestCheckTimedBeyondItsLimits(t *testing.T) {
	secret := []byte("key")
	for _, time := range []int{math.MinInt, -1e11, -30, -29, -1, 1e11 + 1, 1e11 + 30, math.MaxInt} {
		for _, last := range []int{-1, 0, 5, 1e11} {
			for _, step := range []int{0, 1, 3333333332, 3333333333, 3333333334, 3333333335} {
				wantTimed(t, secret, time, last, codeByWords(secret, step, 8), -1)
			}
			wantTimed(t, secret, time, last, "", -1)
		}
	}
	for _, last := range []int{math.MinInt, -1e11, -3, -2, 1e11, 1e11 + 1, 1e12, math.MaxInt} {
		for _, step := range []int{3, 4, 5} {
			wantTimed(t, secret, 120, last, codeByWords(secret, step, 8), -1)
		}
		wantTimed(t, secret, 120, last, "", -1)
	}
	for _, bad := range badCodeSecrets() {
		wantTimed(t, bad, 120, -1, "", -1)
		wantTimed(t, bad, 120, -1, "00000000", -1)
	}
	for _, digits := range []int{math.MinInt, -1, 0, 3, 9, math.MaxInt} {
		for _, code := range []string{"", "000", codeByWords(secret, 4, 8), "0" + codeByWords(secret, 4, 8), codeByWords(secret, 4, 4)[1:]} {
			if step, ok := askTimed(t, secret, 120, -1, digits, code); ok || step != 0 {
				t.Errorf("%d digits: got %d", digits, step)
			}
		}
	}
	for digits := 4; digits <= 8; digits++ {
		if step, ok := askTimed(t, secret, 120, -1, digits, codeByWords(secret, 5, digits)); !ok || step != 5 {
			t.Errorf("%d digits: got %d, %v", digits, step, ok)
		}
	}
}

// A step that was used is used no more, nor one ahead of it: the steps that are told rise, whatever comes.
func TestAStepIsUsedOnce(t *testing.T) {
	from := drawn()
	starts, clashes, told := stepsThatClash(), 0, 0
	for range 3000 {
		secret := drawnBytes(from, 1+from.Intn(3))
		last, time := -1, 30*oneOf(from, starts)+from.Intn(60)
		used := map[int]int{}
		for range 12 {
			time += oneOf(from, []int{0, 0, 1, 10, 29, 30, 31})
			shown := max(0, time/30+from.Intn(5)-2)
			code := codeByWords(secret, shown, 4)
			step, ok := askTimed(t, secret, time, last, 4, code)
			if !ok {
				continue
			}
			if step != shown {
				clashes++
			}
			told++
			used[step]++
			if step <= last || used[step] > 1 || codeByWords(secret, step, 4) != code {
				t.Errorf("%x at %d: step %d behind %d", secret, time, step, last)
			}
			if again, ok := askTimed(t, secret, time, step, 4, code); ok && (again <= step || codeByWords(secret, again, 4) != code) {
				t.Errorf("%x at %d: step %d is used again", secret, time, step)
			}
			last = step
		}
	}
	if told < 3000 || clashes < 100 {
		t.Errorf("only %d codes were taken, %d of them for another step", told, clashes)
	}
}

// stepsThatClash are steps that have, with `key`, one code of four digits with one of the two next. (How far two numbers lie apart hangs hardly on the secret.)
func stepsThatClash() []int {
	var steps []int
	codes := [3]string{}
	for step := 0; len(steps) < 12; step++ {
		codes = [3]string{codes[1], codes[2], codeByWords([]byte("key"), step, 4)}
		if codes[0] == codes[1] || codes[0] == codes[2] {
			steps = append(steps, step-2)
		}
	}
	return steps
}

// The least of two steps with one code is told, as long as it is not used.
func TestStepsThatClash(t *testing.T) {
	secret := []byte("key")
	clashes := map[int]int{}
	for _, first := range stepsThatClash() {
		for step := first; step < first+3; step++ {
			code := codeByWords(secret, step, 4)
			for time := 30 * (first - 1); time <= 30*(first+4); time += 15 {
				for last := first - 2; last <= first+3; last++ {
					if got, ok := askTimed(t, secret, time, last, 4, code); ok {
						clashes[got-step]++
					}
				}
			}
		}
	}
	for _, apart := range []int{-2, -1, 1, 2} {
		if clashes[apart] == 0 {
			t.Errorf("no clash %d steps apart: %v", apart, clashes)
		}
	}
}

func askTry(t *testing.T, th impl.Throttle, time int, right bool) (impl.Throttle, int) {
	t.Helper()
	next, outcome := impl.TryOnce(th, time, right)
	if want, told := tryByWords(th, time, right); next != want || outcome != told {
		t.Errorf("TryOnce(%s, %d, %v): got %s, %d, want %s, %d", shown(th), time, right, shown(next), outcome, shown(want), told)
	}
	return next, outcome
}

func throttleOf(nums [3]int) impl.Throttle {
	return impl.Throttle{Fails: nums[0], Until: nums[1], Last: nums[2]}
}

func TestTryOnce(t *testing.T) {
	type throttle = [3]int
	for _, told := range []struct {
		th      throttle
		time    int
		right   bool
		next    throttle
		outcome int
	}{
		{throttle{}, 0, true, throttle{}, 0},
		{throttle{}, 0, false, throttle{1, 0, 0}, 1},
		{throttle{}, 5, true, throttle{0, 0, 5}, 0},
		{throttle{}, 5, false, throttle{1, 0, 5}, 1},
		{throttle{1, 0, 5}, 5, false, throttle{2, 0, 5}, 1},
		{throttle{1, 0, 5}, 6, true, throttle{0, 0, 6}, 0},
		{throttle{2, 0, 5}, 5, false, throttle{3, 15, 5}, 1},
		{throttle{2, 0, 5}, 9, false, throttle{3, 19, 9}, 1},
		{throttle{3, 19, 9}, 9, true, throttle{3, 19, 9}, 2},
		{throttle{3, 19, 9}, 18, true, throttle{3, 19, 9}, 2},
		{throttle{3, 19, 9}, 18, false, throttle{3, 19, 9}, 2},
		{throttle{3, 19, 9}, 19, true, throttle{0, 0, 19}, 0},
		{throttle{3, 19, 9}, 19, false, throttle{4, 39, 19}, 1},
		{throttle{3, 19, 9}, 8, true, throttle{}, -1},
		{throttle{3, 19, 9}, 8, false, throttle{}, -1},
		{throttle{9, 0, 0}, 100, false, throttle{10, 1380, 100}, 1},
		{throttle{10, 0, 0}, 100, false, throttle{11, 2660, 100}, 1},
		{throttle{11, 0, 0}, 100, false, throttle{12, 3700, 100}, 1},
		{throttle{12, 0, 0}, 100, false, throttle{13, 3700, 100}, 1},
		{throttle{70, 0, 0}, 100, false, throttle{71, 3700, 100}, 1},
		{throttle{999999, 0, 0}, 100, false, throttle{1000000, 3700, 100}, 1},
		{throttle{1000000, 0, 0}, 100, false, throttle{1000000, 3700, 100}, 1},
		{throttle{1000000, 100, 0}, 99, true, throttle{1000000, 100, 0}, 2},
		{throttle{1000000, 100, 0}, 100, true, throttle{0, 0, 100}, 0},
		{throttle{1000001, 0, 0}, 100, true, throttle{}, -1},
		{throttle{-1, 0, 0}, 100, true, throttle{}, -1},
		{throttle{0, -1, 0}, 100, true, throttle{}, -1},
		{throttle{0, 0, -1}, 100, true, throttle{}, -1},
		{throttle{0, 100000003600, 0}, 100, true, throttle{0, 100000003600, 0}, 2},
		{throttle{0, 100000003601, 0}, 100, true, throttle{}, -1},
		{throttle{0, 0, 100000000000}, 100000000000, true, throttle{0, 0, 100000000000}, 0},
		{throttle{0, 0, 100000000001}, 100000000001, true, throttle{}, -1},
		{throttle{11, 0, 0}, 100000000000, false, throttle{12, 100000003600, 100000000000}, 1},
		{throttle{12, 100000003600, 100000000000}, 100000000000, true, throttle{12, 100000003600, 100000000000}, 2},
		{throttle{0, 0, 0}, -1, true, throttle{}, -1},
		{throttle{0, 0, 0}, 100000000001, true, throttle{}, -1},
	} {
		if next, outcome := askTry(t, throttleOf(told.th), told.time, told.right); next != throttleOf(told.next) || outcome != told.outcome {
			t.Errorf("%v at %d, %v: got %s, %d, want %v, %d", told.th, told.time, told.right, shown(next), outcome, told.next, told.outcome)
		}
	}
}

// Every field at both ends, one beyond, and neighbours of each other.
func TestTryOnceAtAllEnds(t *testing.T) {
	var seen [4]int
	for _, fails := range throttleFails() {
		for _, until := range throttleTimes() {
			for _, last := range throttleTimes() {
				for _, time := range throttleTimes() {
					for _, right := range []bool{false, true} {
						_, outcome := askTry(t, impl.Throttle{Fails: fails, Until: until, Last: last}, time, right)
						seen[outcome+1]++
					}
				}
			}
		}
	}
	if slices.Min(seen[:]) < 1000 {
		t.Errorf("too few of an outcome: %v", seen)
	}
}

func TestLocksGrow(t *testing.T) {
	th, time, before := impl.Throttle{}, 0, 0
	for fails := 1; fails <= 100; fails++ {
		next, outcome := askTry(t, th, time, false)
		if outcome != impl.TryWrong || next.Fails != fails || next.Last != time {
			t.Fatalf("%d wrong ones: got %s, %d", fails, shown(next), outcome)
		}
		lock := next.Until - time
		if fails < 3 {
			lock = next.Until
		}
		if want := []int{0, 0, 10, 20, 40, 80, 160, 320, 640, 1280, 2560, 3600, 3600}[min(fails, 13)-1]; lock != want || lock < before {
			t.Errorf("%d wrong ones: a lock of %d, want %d", fails, lock, want)
		}
		th, time, before = next, max(time, next.Until), lock
		// A right one behind the lock begins anew.
		if anew, outcome := askTry(t, th, time, true); outcome != impl.TryIn || anew != (impl.Throttle{Last: time}) {
			t.Errorf("a right one behind %d wrong ones: got %s, %d", fails, shown(anew), outcome)
		}
	}
}

// askTries holds tries against the words and against the promise: nobody gets in while it is locked.
func askTries(t *testing.T, list []impl.Try) []int {
	t.Helper()
	got := impl.RunTries(list)
	if want := runTriesByWords(list); !slices.Equal(got, want) {
		t.Errorf("RunTries(%.400s): got %.400v, want %.400v", shown(list), got, want)
		return got
	}
	wrong, lastWrong := 0, 0
	for i, outcome := range got {
		switch outcome {
		case impl.TryIn:
			if !list[i].Right || wrong >= 3 && list[i].Time < lastWrong+lockByWords(wrong) {
				t.Errorf("%.400s: try %d gets in", shown(list), i)
			}
			wrong = 0
		case impl.TryWrong:
			wrong, lastWrong = wrong+1, list[i].Time
		}
	}
	return got
}

func TestRunTries(t *testing.T) {
	for _, told := range []struct {
		list []impl.Try
		want []int
	}{
		{nil, nil},
		{triesOf("0 right"), []int{0}},
		{triesOf("0 wrong"), []int{1}},
		{triesOf("100000000000 right", "100000000000 wrong"), []int{0, 1}},
		{triesOf("100000000001 right", "-1 right", "0 right"), []int{-1, -1, 0}},
		{triesOf("5 right", "4 right", "5 right", "-5 wrong", "6 wrong"), []int{0, -1, 0, -1, 1}},
		{triesOf("1 wrong", "2 wrong", "3 wrong", "12 right", "13 wrong", "32 right", "33 right", "5 wrong"), []int{1, 1, 1, 2, 1, 2, 0, -1}},
		{triesOf("0 wrong", "0 wrong", "0 wrong", "9 right", "10 right", "10 wrong", "10 wrong", "10 right"), []int{1, 1, 1, 2, 0, 1, 1, 0}},
		{triesOf("0 wrong", "0 wrong", "0 wrong", "10 wrong", "29 right", "30 right"), []int{1, 1, 1, 1, 2, 0}},
		// What is locked does not put the time on: a try may come ahead of it.
		{triesOf("0 wrong", "0 wrong", "1 wrong", "9 right", "5 right", "0 right", "10 right", "11 right"), []int{1, 1, 1, 2, 2, -1, 2, 0}},
		// What is not as said neither puts the time on nor counts as wrong.
		{triesOf("0 wrong", "0 wrong", "-1 wrong", "100000000001 wrong", "0 right"), []int{1, 1, -1, -1, 0}},
		{triesOf("0 wrong", "0 wrong", "0 wrong", "-1 wrong", "9 right", "100000000001 right", "10 right"), []int{1, 1, 1, -1, 2, -1, 0}},
		{triesOf("99999999999 wrong", "99999999999 wrong", "99999999999 wrong", "100000000000 right", "100000000001 right"), []int{1, 1, 1, 2, -1}},
	} {
		if got := askTries(t, told.list); !slices.Equal(got, told.want) {
			t.Errorf("%s: got %v, want %v", shown(told.list), got, told.want)
		}
	}
}

func TestRunTriesOfMany(t *testing.T) {
	for _, many := range []int{1, 2, 999, 1000} {
		list := slices.Repeat(triesOf("7 right"), many)
		if got := askTries(t, list); len(got) != many || slices.Max(got) != 0 {
			t.Errorf("%d tries: got %v", many, got)
		}
		if got := askTries(t, make([]impl.Try, many)); len(got) != many {
			t.Errorf("%d tries: got %v", many, got)
		}
	}
	for _, many := range []int{1001, 1002, 100000} {
		if got := askTries(t, slices.Repeat(triesOf("7 right"), many)); got != nil {
			t.Errorf("%d tries: got %v", many, got)
		}
	}
	var list []impl.Try
	for i := range 1000 {
		list = append(list, impl.Try{Time: 3600 * i})
	}
	if got := askTries(t, list); len(got) != 1000 || slices.Max(got) != 1 {
		t.Errorf("a wrong one an hour: got %v", got)
	}
}

// All tries of a few steps on from each other.
func TestRunTriesInAllWays(t *testing.T) {
	steps := []int{-1, 0, 1, 9, 10, 20}
	var list []impl.Try
	var grow func(time int)
	grow = func(time int) {
		if len(list) == 6 {
			askTries(t, list)
			return
		}
		for _, step := range steps {
			for _, right := range []bool{false, true} {
				list = append(list, impl.Try{Time: time + step, Right: right})
				grow(max(time, time+step))
				list = list[:len(list)-1]
			}
		}
	}
	grow(0)
}

func TestRunTriesAsDrawn(t *testing.T) {
	from := drawn()
	var seen [4]int
	for range 3000 {
		list := drawnTries(from, 1+from.Intn(60))
		for _, outcome := range askTries(t, list) {
			seen[outcome+1]++
		}
	}
	for range 30 {
		askTries(t, drawnTries(from, 1000))
	}
	if slices.Min(seen[:]) < 2000 {
		t.Errorf("too few of an outcome: %v", seen)
	}
}

// What was tried while it was locked, or is not as said, may as well not have been tried.
func TestTriesThatChangeNothing(t *testing.T) {
	from := drawn()
	for range 1000 {
		list := drawnTries(from, 60)
		var left []impl.Try
		var want []int
		for i, outcome := range askTries(t, list) {
			if outcome == impl.TryIn || outcome == impl.TryWrong {
				left, want = append(left, list[i]), append(want, outcome)
			}
		}
		if got := askTries(t, left); !slices.Equal(got, want) {
			t.Errorf("%s: got %v, want %v", shown(left), got, want)
		}
	}
}

func askAnswer(t *testing.T, secret int, origin string, challenge []byte, counter int) impl.Answer {
	t.Helper()
	got := impl.AnswerChallenge(secret, origin, challenge, counter)
	if want := answerByWords(secret, origin, challenge, counter); got != want {
		t.Errorf("AnswerChallenge(%d, %.80q, %.80q, %d): got %.200s, want %.200s", secret, origin, challenge, counter, shown(got), shown(want))
	}
	return got
}

func askShown(t *testing.T, c answerCase) (impl.HardKey, int) {
	t.Helper()
	next, outcome := impl.CheckAnswer(c.key, c.challenge, c.answer)
	if want, told := checkAnswerByWords(c.key, c.challenge, c.answer); next != want || outcome != told {
		t.Errorf("CheckAnswer(%.200s, %.80q, %.200s): got %.200s, %d, want %.200s, %d", shown(c.key), c.challenge, shown(c.answer), shown(next), outcome, shown(want), told)
	}
	return next, outcome
}

// wantShown changes what is taken otherwise.
func wantShown(t *testing.T, what string, want int, change func(c *answerCase)) {
	t.Helper()
	c := plainAnswerCase()
	change(&c)
	if _, got := askShown(t, c); got != want {
		t.Errorf("%s: got %d, want %d", what, got, want)
	}
}

func TestAnswerChallenge(t *testing.T) {
	plain := impl.AnswerChallenge(9, "o", []byte("c"), 4)
	if plain.Origin != "o" || plain.Counter != 4 || plain.Sig != impl.Sign(9, slices.Concat(impl.Digest([]byte("o")), impl.Digest([]byte("c")), []byte{4, 0, 0, 0})) {
		t.Errorf("got %s", shown(plain))
	}
	for _, secret := range []int{1, 2, 77, impl.Order - 2, impl.Order - 1} {
		for _, origin := range []string{"o", "\x00", "shop.example", strings.Repeat("o", 99), strings.Repeat("o", 100), "\xff"} {
			for _, challenge := range [][]byte{nil, {}, {0}, []byte("challenge"), bytes.Repeat([]byte{255}, 99), make([]byte, 100)} {
				for _, counter := range []int{0, 1, 255, 256, 65536, 1 << 24, 1e9 - 1, 1e9} {
					if askAnswer(t, secret, origin, challenge, counter).Origin != origin {
						t.Errorf("%d, %q, %q, %d: want an answer", secret, origin, challenge, counter)
					}
				}
			}
		}
	}
	none := func(got impl.Answer, what string) {
		if got != (impl.Answer{}) {
			t.Errorf("%s: got %.200s", what, shown(got))
		}
	}
	for _, secret := range badSecrets() {
		none(askAnswer(t, secret, "o", []byte("c"), 4), "secret "+strconv.Itoa(secret))
	}
	for _, origin := range badOrigins() {
		none(askAnswer(t, 9, origin, []byte("c"), 4), "an origin of "+strconv.Itoa(len(origin)))
	}
	for _, challenge := range badChallenges() {
		none(askAnswer(t, 9, "o", challenge, 4), "a challenge of "+strconv.Itoa(len(challenge)))
	}
	for _, counter := range badKeyCounters() {
		none(askAnswer(t, 9, "o", []byte("c"), counter), "counter "+strconv.Itoa(counter))
	}
}

func TestCheckAnswer(t *testing.T) {
	c := plainAnswerCase()
	if next, outcome := askShown(t, c); outcome != 0 || next != (impl.HardKey{Public: c.key.Public, Origin: c.key.Origin, Counter: 7}) {
		t.Errorf("got %s, %d", shown(next), outcome)
	}
	for _, public := range badPublics() {
		wantShown(t, "public "+strconv.Itoa(public), 1, func(c *answerCase) { c.key.Public = public })
	}
	for _, origin := range badOrigins() {
		wantShown(t, "the key's origin", 1, func(c *answerCase) { c.key.Origin = origin })
		wantShown(t, "both origins", 1, func(c *answerCase) { c.key.Origin, c.answer.Origin = origin, origin })
		wantShown(t, "the answer's origin", 2, func(c *answerCase) { c.answer.Origin = origin })
	}
	for _, challenge := range badChallenges() {
		wantShown(t, "a long challenge", 1, func(c *answerCase) { c.challenge = challenge })
	}
	for _, counter := range badKeyCounters() {
		wantShown(t, "the key's counter", 1, func(c *answerCase) { c.key.Counter = counter })
		wantShown(t, "the answer's counter", 1, func(c *answerCase) { c.answer.Counter = counter })
		wantShown(t, "both counters", 1, func(c *answerCase) { c.key.Counter, c.answer.Counter = counter, counter })
	}
	for _, origin := range []string{"shop.exampl", "shop.example ", "Shop.example", "hop.example", "evil.example", "shop.example\x00"} {
		wantShown(t, "of "+origin, 2, func(c *answerCase) { c.answer.Origin = origin })
		wantShown(t, "for "+origin, 2, func(c *answerCase) { c.answer = answerByWords(c.secret, origin, c.challenge, 7) })
		wantShown(t, "for "+origin+", told otherwise", 4, func(c *answerCase) {
			c.answer = answerByWords(c.secret, origin, c.challenge, 7)
			c.answer.Origin = c.key.Origin
		})
	}
	for counter := range 4 {
		wantShown(t, "counter "+strconv.Itoa(counter), 3, func(c *answerCase) { c.answer = answerByWords(c.secret, c.key.Origin, c.challenge, counter) })
	}
	for _, counter := range []int{4, 5, 1000, 1e9} {
		wantShown(t, "counter "+strconv.Itoa(counter), 0, func(c *answerCase) { c.answer = answerByWords(c.secret, c.key.Origin, c.challenge, counter) })
		wantShown(t, "counter "+strconv.Itoa(counter)+" that was not signed", 4, func(c *answerCase) { c.answer.Counter = counter })
	}
	for _, counter := range []int{7, 8, 1e9} {
		wantShown(t, "a key at "+strconv.Itoa(counter), 3, func(c *answerCase) { c.key.Counter = counter })
	}
	for _, counter := range []int{0, 1, 6} {
		wantShown(t, "a key at "+strconv.Itoa(counter), 0, func(c *answerCase) { c.key.Counter = counter })
	}
	for _, challenge := range [][]byte{nil, []byte("challengf"), []byte("challeng"), []byte("challenge "), make([]byte, 100)} {
		wantShown(t, "another challenge", 4, func(c *answerCase) { c.challenge = challenge })
	}
	wantShown(t, "of another secret", 4, func(c *answerCase) { c.answer = answerByWords(4712, c.key.Origin, c.challenge, 7) })
	wantShown(t, "by another key", 4, func(c *answerCase) { c.key.Public = impl.PublicOf(4712) })
}

func TestCheckAnswerOfOtherSignatures(t *testing.T) {
	for _, change := range []func(s *impl.Sig){
		func(s *impl.Sig) { s.R++ },
		func(s *impl.Sig) { s.Z++ },
		func(s *impl.Sig) { s.R-- },
		func(s *impl.Sig) { s.Z-- },
		func(s *impl.Sig) { s.Z += impl.Order },
		func(s *impl.Sig) { s.Z -= impl.Order },
		func(s *impl.Sig) { s.R += impl.Prime },
		func(s *impl.Sig) { s.R, s.Z = s.Z, s.R },
		func(s *impl.Sig) { s.R, s.Z = 0, 0 },
		func(s *impl.Sig) { s.R, s.Z = 1, 0 },
		func(s *impl.Sig) { s.R, s.Z = math.MinInt, math.MaxInt },
	} {
		wantShown(t, "another signature", 4, func(c *answerCase) { change(&c.answer.Sig) })
	}
	// A signature of anything but those 36 bytes is none.
	origin, challenge, counter := impl.Digest([]byte("shop.example")), impl.Digest([]byte("challenge")), []byte{7, 0, 0, 0}
	for i, data := range [][]byte{
		slices.Concat(challenge, origin, counter), slices.Concat(counter, origin, challenge), slices.Concat(origin, challenge), slices.Concat(origin, challenge, counter, counter),
		slices.Concat(origin, challenge, []byte{0, 0, 0, 7}), slices.Concat(origin, challenge, []byte{7}), slices.Concat(origin, challenge, []byte{7, 0, 0, 0, 0, 0, 0, 0}),
		slices.Concat([]byte("shop.example"), []byte("challenge"), counter), slices.Concat(origin, origin, counter), nil,
	} {
		wantShown(t, "data "+strconv.Itoa(i), 4, func(c *answerCase) { c.answer.Sig = impl.Sign(c.secret, data) })
	}
	wantShown(t, "the 36 bytes", 0, func(c *answerCase) {
		c.answer.Sig = impl.Sign(c.secret, slices.Concat(origin, challenge, counter))
	})
}

// Where several things are wrong the first that is told counts: all ways to have some of them wrong.
func TestCheckAnswerTellsTheFirstFault(t *testing.T) {
	spoils := []struct {
		fault int
		spoil func(c *answerCase)
	}{
		{4, func(c *answerCase) { c.answer.Sig.Z = (c.answer.Sig.Z + 1) % impl.Order }},
		{4, func(c *answerCase) { c.answer.Sig.R = 0 }},
		{3, func(c *answerCase) { c.key.Counter = c.answer.Counter }},
		{2, func(c *answerCase) { c.answer.Origin += "x" }},
		{1, func(c *answerCase) { c.answer.Counter = -1 }},
		{1, func(c *answerCase) { c.challenge = make([]byte, 101) }},
		{1, func(c *answerCase) { c.key.Counter = 1e9 + 1 }},
		{1, func(c *answerCase) { c.key.Origin = "" }},
		{1, func(c *answerCase) { c.key.Public = 0 }},
	}
	for chosen := range 1 << len(spoils) {
		c, want := plainAnswerCase(), 0
		for i, s := range spoils {
			if chosen>>i&1 == 1 {
				s.spoil(&c)
				want = s.fault
			}
		}
		next, got := askShown(t, c)
		if got != want || (next == impl.HardKey{}) != (want != 0) {
			t.Errorf("%b: got %s, %d, want %d", chosen, shown(next), got, want)
		}
	}
}

func TestAnswersAtTheirEnds(t *testing.T) {
	for _, secret := range []int{1, impl.Order - 1} {
		for _, origin := range []string{"o", strings.Repeat("o", 100)} {
			for _, challenge := range [][]byte{nil, make([]byte, 100)} {
				key := impl.HardKey{Public: impl.PublicOf(secret), Origin: origin}
				for _, counter := range []int{1, 1e9} {
					next, got := askShown(t, answerCase{secret, key, challenge, askAnswer(t, secret, origin, challenge, counter)})
					if got != 0 || next.Counter != counter || next.Public != key.Public || next.Origin != origin {
						t.Errorf("%d, %q, %d, %d: got %s, %d", secret, origin, len(challenge), counter, shown(next), got)
					}
				}
				if _, got := askShown(t, answerCase{secret, key, challenge, askAnswer(t, secret, origin, challenge, 0)}); got != 3 {
					t.Errorf("counter 0 behind 0: got %d", got)
				}
				key.Counter = 1e9
				if _, got := askShown(t, answerCase{secret, key, challenge, askAnswer(t, secret, origin, challenge, 1e9)}); got != 3 {
					t.Errorf("the last counter again: got %d", got)
				}
			}
		}
	}
}

// Promise 16: an answer is taken once, by the key, for the origin and at the challenge that it was made for.
func TestAnAnswerIsTakenOnce(t *testing.T) {
	type made struct {
		origin    string
		challenge string
		answer    impl.Answer
	}
	from := drawn()
	takenInAll := 0
	for range 60 {
		secret := 1 + from.Intn(impl.Order-1)
		var answers []made
		for counter := range 12 {
			for range 2 {
				m := made{origin: oneOf(from, []string{"shop", "evil"}), challenge: oneOf(from, []string{"c1", "c2"})}
				m.answer = impl.AnswerChallenge(secret, m.origin, []byte(m.challenge), counter)
				answers = append(answers, m)
			}
		}
		key := impl.HardKey{Public: impl.PublicOf(secret), Origin: "shop"}
		times := map[impl.Answer]int{}
		for range 200 {
			m, challenge := oneOf(from, answers[:min(len(answers), 2*key.Counter+6)]), oneOf(from, []string{"c1", "c2"})
			next, outcome := impl.CheckAnswer(key, []byte(challenge), m.answer)
			if outcome != 0 {
				continue
			}
			takenInAll++
			times[m.answer]++
			if times[m.answer] > 1 || m.origin != "shop" || m.challenge != challenge || next.Counter <= key.Counter {
				t.Errorf("%s is taken at %q by %s", shown(m), challenge, shown(key))
			}
			key = next
			if again, outcome := impl.CheckAnswer(key, []byte(challenge), m.answer); outcome != 3 || again != (impl.HardKey{}) {
				t.Errorf("%s again: got %d", shown(m), outcome)
			}
		}
	}
	if takenInAll < 200 {
		t.Errorf("only %d answers were taken", takenInAll)
	}
}

func TestAnswersAsDrawn(t *testing.T) {
	from := drawn()
	var seen [5]int
	for range 2500 {
		c := plainAnswerCase()
		c.secret = 1 + from.Intn(impl.Order-1)
		c.challenge = drawnBytes(from, from.Intn(101))
		c.key = impl.HardKey{Public: impl.PublicOf(c.secret), Origin: drawnText(from, "ab", 2) + "o", Counter: from.Intn(4)}
		origin := oneOf(from, []string{c.key.Origin, c.key.Origin, c.key.Origin, "aao", "o"})
		c.answer = askAnswer(t, c.secret, origin, c.challenge, from.Intn(6))
		switch from.Intn(12) {
		case 0:
			c.answer.Sig.Z = from.Intn(impl.Order)
		case 1:
			c.key.Public = oneOf(from, badPublics())
		case 2:
			c.challenge = drawnBytes(from, from.Intn(103))
		}
		_, outcome := askShown(t, c)
		seen[outcome]++
	}
	if slices.Min(seen[:]) < 50 {
		t.Errorf("too few of an outcome: %v", seen)
	}
}

// askRecovery holds events against the words and against the promise: nothing is taken over ahead of its delay and votes.
func askRecovery(t *testing.T, c recoverCase) []int {
	t.Helper()
	got := impl.RunRecovery(c.need, c.delay, c.helpers, c.events)
	if want := recoveryByWords(c.need, c.delay, c.helpers, c.events); !slices.Equal(got, want) {
		t.Errorf("RunRecovery(%d, %d, %.200q, %.600s): got %.400v, want %.400v", c.need, c.delay, c.helpers, shown(c.events), got, want)
		return got
	}
	asked, votes := -1, map[string]int{}
	for i, outcome := range got {
		e := c.events[i]
		switch {
		case outcome != 0:
		case e.Kind == impl.RecoverAsk:
			asked, votes = e.Time, map[string]int{}
		case e.Kind == impl.RecoverVote:
			votes[e.Who]++
		case e.Kind == impl.RecoverStop:
			asked = -1
		case asked < 0 || e.Time < asked+c.delay || len(votes) < c.need || !areAllIn(slices.Sorted(votersOf(votes)), c.helpers):
			t.Errorf("%d, %d, %q, %.600s: event %d takes over", c.need, c.delay, c.helpers, shown(c.events), i)
		default:
			asked = -1
		}
	}
	return got
}

func votersOf(votes map[string]int) func(yield func(string) bool) {
	return func(yield func(string) bool) {
		for who := range votes {
			if !yield(who) {
				return
			}
		}
	}
}

func wantRecovery(t *testing.T, need int, delay int, want []int, lines ...string) {
	t.Helper()
	if got := askRecovery(t, recoverCase{need, delay, []string{"bob", "cy", "dan"}, recoverOf(lines...)}); !slices.Equal(got, want) {
		t.Errorf("need %d, delay %d, %q: got %v, want %v", need, delay, lines, got, want)
	}
}

func TestRunRecovery(t *testing.T) {
	c := plainRecoverCase()
	if got, want := askRecovery(t, c), []int{0, 0, 5, 4, 3, 6, 0, 7, 0, 3, 0, 0, 0, 0, 0, 6, 0, 2, 0}; !slices.Equal(got, want) {
		t.Errorf("got %v, want %v", got, want)
	}
	wantRecovery(t, 1, 0, nil)
	wantRecovery(t, 1, 0, []int{0, 0, 0}, "0 ask", "0 vote bob", "0 take")
	wantRecovery(t, 1, 0, []int{3, 3, 3, 3}, "0 vote bob", "0 stop", "0 take", "5 vote eve")
	// Just when it is ready and one ahead of that, with as many votes as needed and one fewer.
	wantRecovery(t, 1, 10, []int{0, 0, 7, 0}, "5 ask", "5 vote bob", "14 take", "15 take")
	wantRecovery(t, 2, 10, []int{0, 0, 6, 0, 0}, "5 ask", "5 vote bob", "15 take", "15 vote cy", "15 take")
	wantRecovery(t, 3, 0, []int{0, 0, 0, 6, 0, 0}, "5 ask", "5 vote bob", "6 vote cy", "6 take", "6 vote dan", "6 take")
	wantRecovery(t, 4, 0, []int{0, 0, 0, 0, 6}, "5 ask", "5 vote bob", "6 vote cy", "6 vote dan", "7 take")
	// One with too few votes that comes too early as well tells of the votes.
	wantRecovery(t, 2, 10, []int{0, 6, 0, 6, 0, 7}, "5 ask", "5 take", "6 vote bob", "6 take", "6 vote cy", "6 take")
	// A second vote, then again behind a stop and behind a take.
	wantRecovery(t, 1, 0, []int{0, 0, 5, 0, 5, 5}, "0 ask", "0 vote bob", "1 vote bob", "1 vote cy", "1 vote cy", "1 vote bob")
	wantRecovery(t, 1, 0, []int{0, 0, 0, 3, 0, 6, 0, 5, 0}, "0 ask", "0 vote bob", "1 stop", "1 vote bob", "1 ask", "1 take", "1 vote bob", "1 vote bob", "1 take")
	wantRecovery(t, 1, 0, []int{0, 0, 0, 3, 3, 0, 6, 0, 5, 0}, "0 ask", "0 vote bob", "1 take", "1 take", "1 vote bob", "1 ask", "1 take", "1 vote bob", "1 vote bob", "1 take")
	// The delay counts from the last beginning.
	wantRecovery(t, 1, 10, []int{0, 0, 0, 0, 7, 7, 0}, "0 ask", "8 stop", "9 ask", "9 vote bob", "10 take", "18 take", "19 take")
	wantRecovery(t, 1, 10, []int{0, 3, 0, 0}, "0 ask", "9 ask", "9 vote bob", "10 take")
	// What was not done does not put the time on.
	wantRecovery(t, 1, 0, []int{3, 0, 4, 0, 3, 0, 5, 0, 2, 0}, "9 take", "0 ask", "9 vote eve", "1 vote bob", "9 ask", "2 vote cy", "9 vote cy", "3 vote dan", "2 take", "3 take")
	wantRecovery(t, 2, 5, []int{0, 6, 0, 6, 0, 7, 0, 0}, "0 ask", "9 take", "1 vote bob", "9 take", "2 vote cy", "4 take", "3 vote dan", "5 take")
	wantRecovery(t, 1, 0, []int{0, 2, 2, 2, 2, 0}, "5 ask", "4 ask", "4 vote bob", "4 stop", "4 take", "5 stop")
	// The time does not begin anew with a recovery.
	wantRecovery(t, 1, 0, []int{0, 0, 2, 0}, "5 ask", "6 stop", "5 ask", "6 ask")
	wantRecovery(t, 1, 0, []int{0, 0, 0, 2, 0}, "5 ask", "6 vote bob", "7 take", "6 ask", "7 ask")
	// Beyond MaxTime nothing is ever ready.
	wantRecovery(t, 1, 1, []int{0, 0, 7}, "100000000000 ask", "100000000000 vote bob", "100000000000 take")
	wantRecovery(t, 1, 0, []int{0, 0, 0}, "100000000000 ask", "100000000000 vote bob", "100000000000 take")
	wantRecovery(t, 1, 100000000000, []int{0, 0, 7, 0}, "0 ask", "0 vote bob", "99999999999 take", "100000000000 take")
	wantRecovery(t, 1, 100000000000, []int{0, 0, 7}, "1 ask", "1 vote bob", "100000000000 take")
}

func TestRunRecoveryOfEventsThatAreNotAsSaid(t *testing.T) {
	ask := func(what string, want int, lines []string, e impl.RecoverEvent) {
		t.Helper()
		got := askRecovery(t, recoverCase{1, 0, []string{"bob", "cy"}, append(recoverOf(lines...), e)})
		if got[len(lines)] != want {
			t.Errorf("%s, %s behind %q: got %v, want %d", what, shown(e), lines, got, want)
		}
	}
	for _, ahead := range [][]string{nil, {"5 ask"}, {"5 ask", "5 vote bob"}, {"5 ask", "5 vote bob", "5 take"}, {"5 ask", "5 stop"}} {
		for _, kind := range []int{math.MinInt, -1, 0, 5, 6, 1 << 32, math.MaxInt} {
			ask("a kind that is none", 1, ahead, impl.RecoverEvent{Kind: kind, Time: 5})
			ask("a kind that is none", 1, ahead, impl.RecoverEvent{Kind: kind, Time: 4})
			ask("a kind that is none", 1, ahead, impl.RecoverEvent{Kind: kind, Time: 5, Who: "bob"})
		}
		for kind := 1; kind <= 4; kind++ {
			for _, time := range []int{math.MinInt, -1, 1e11 + 1, math.MaxInt} {
				ask("a time beyond its ends", 1, ahead, impl.RecoverEvent{Kind: kind, Time: time})
				ask("a time beyond its ends", 1, ahead, impl.RecoverEvent{Kind: kind, Time: time, Who: "bob"})
			}
			for _, who := range append(badWords(), "bob", "eve", longName("n")) {
				if kind != impl.RecoverVote && who != "" {
					ask("a Who", 1, ahead, impl.RecoverEvent{Kind: kind, Time: 5, Who: who})
					ask("a Who", 1, ahead, impl.RecoverEvent{Kind: kind, Time: 4, Who: who})
				}
			}
		}
		for _, who := range append(badWords(), "eve", "bo", "bobb", "Bob", "bob ", longName("n")) {
			want := 4
			if len(ahead) == 0 || !slices.Contains([]string{"5 ask", "5 vote bob"}, ahead[len(ahead)-1]) {
				want = 3
			}
			ask("a stranger", want, ahead, impl.RecoverEvent{Kind: impl.RecoverVote, Time: 5, Who: who})
			if len(ahead) > 0 {
				ask("a stranger, too early", 2, ahead, impl.RecoverEvent{Kind: impl.RecoverVote, Time: 4, Who: who})
			}
		}
	}
	ask("at the ends of time", 0, nil, impl.RecoverEvent{Kind: impl.RecoverAsk})
	ask("at the ends of time", 0, nil, impl.RecoverEvent{Kind: impl.RecoverAsk, Time: 1e11})
}

func TestRunRecoveryLimits(t *testing.T) {
	plain := plainRecoverCase()
	isNone := func(what string, c recoverCase, want bool) {
		t.Helper()
		if got := askRecovery(t, c); (got == nil) != want {
			t.Errorf("%s: got %.200v", what, got)
		}
	}
	for _, need := range []int{math.MinInt, -10, -1, 0, 11, 12, math.MaxInt} {
		isNone("need "+strconv.Itoa(need), recoverCase{need, plain.delay, plain.helpers, plain.events}, true)
	}
	for need := 1; need <= 10; need++ {
		isNone("need "+strconv.Itoa(need), recoverCase{need, plain.delay, plain.helpers, plain.events}, false)
	}
	for _, delay := range []int{math.MinInt, -10, -1, 1e11 + 1, math.MaxInt} {
		isNone("delay "+strconv.Itoa(delay), recoverCase{plain.need, delay, plain.helpers, plain.events}, true)
	}
	for _, delay := range []int{0, 1, 1e11 - 1, 1e11} {
		isNone("delay "+strconv.Itoa(delay), recoverCase{plain.need, delay, plain.helpers, plain.events}, false)
	}
	for _, helpers := range badHelpers() {
		isNone("helpers "+strings.Join(helpers[:min(len(helpers), 3)], ","), recoverCase{plain.need, plain.delay, helpers, plain.events}, true)
	}
	for _, helpers := range [][]string{nil, {}, {"a"}, {"B", "_", "a"}, {longName("n")}, {"a", "a1", "b"}, countedHelpers(9), countedHelpers(10)} {
		isNone("helpers "+strings.Join(helpers, ","), recoverCase{plain.need, plain.delay, helpers, plain.events}, false)
	}
	for _, many := range []int{1, 199, 200} {
		isNone(strconv.Itoa(many)+" events", recoverCase{plain.need, plain.delay, plain.helpers, make([]impl.RecoverEvent, many)}, false)
		isNone(strconv.Itoa(many)+" events", recoverCase{1, 0, plain.helpers, slices.Repeat(recoverOf("1 ask", "1 stop"), 100)[:many]}, false)
	}
	for _, many := range []int{201, 202, 100000} {
		isNone(strconv.Itoa(many)+" events", recoverCase{plain.need, plain.delay, plain.helpers, make([]impl.RecoverEvent, many)}, true)
	}
}

// Ten helpers, and ten votes that are needed: one fewer is not enough.
func TestRunRecoveryWithAllHelpers(t *testing.T) {
	helpers := countedHelpers(10)
	for need := 1; need <= 10; need++ {
		lines := []string{"0 ask"}
		want := []int{0}
		for i, who := range helpers {
			lines = append(lines, "0 take", "0 vote "+who)
			if i < need {
				want = append(want, 6, 0)
			}
		}
		lines, want = append(lines[:1+2*need], "0 take", "0 take"), append(want, 0, 3)
		if got := askRecovery(t, recoverCase{need, 0, helpers, recoverOf(lines...)}); !slices.Equal(got, want) {
			t.Errorf("need %d: got %v, want %v", need, got, want)
		}
	}
}

// askAllRecoveries asks for every list of so many events.
func askAllRecoveries(t *testing.T, need int, delay int, many int, events []impl.RecoverEvent) [8]int {
	t.Helper()
	c := recoverCase{need, delay, []string{"a", "b"}, make([]impl.RecoverEvent, many)}
	var seen [8]int
	var grow func(at int)
	grow = func(at int) {
		if at == many {
			seen[askRecovery(t, c)[many-1]]++
			return
		}
		for _, e := range events {
			c.events[at] = e
			grow(at + 1)
		}
	}
	grow(0)
	return seen
}

func TestRunRecoveryInAllWays(t *testing.T) {
	var events []impl.RecoverEvent
	for time := range 3 {
		at := strconv.Itoa(time)
		events = append(events, recoverOf(at+" ask", at+" vote a", at+" vote b", at+" vote eve", at+" stop", at+" take")...)
	}
	for _, told := range []struct{ need, delay int }{{1, 0}, {1, 1}, {2, 1}, {2, 2}} {
		seen := askAllRecoveries(t, told.need, told.delay, 4, events)
		if seen[0] == 0 || seen[2] == 0 || seen[3] == 0 || seen[4] == 0 || seen[5] == 0 || seen[6] == 0 {
			t.Errorf("%v: an outcome never comes: %v", told, seen)
		}
	}
	askAllRecoveries(t, 1, 1, 5, events[:12])
	askAllRecoveries(t, 2, 1, 5, events[:12])
	// Longer ones, in which little or no time goes by.
	askAllRecoveries(t, 2, 0, 7, recoverOf("0 ask", "0 vote a", "0 vote b", "0 stop", "0 take"))
	askAllRecoveries(t, 1, 2, 6, recoverOf("0 ask", "1 ask", "1 vote a", "2 stop", "2 take", "3 take"))
}

func TestRunRecoveryAsDrawn(t *testing.T) {
	from := drawn()
	var seen [8]int
	over := 0
	for range 6000 {
		c := drawnRecovery(from, 1+from.Intn(40))
		for i, outcome := range askRecovery(t, c) {
			seen[outcome]++
			if outcome == 0 && c.events[i].Kind == impl.RecoverTake {
				over++
			}
		}
	}
	for range 100 {
		askRecovery(t, drawnRecovery(from, 200))
	}
	if slices.Min(seen[:]) < 500 || over < 500 {
		t.Errorf("too few of an outcome: %v, or taken over: %d", seen, over)
	}
}

// What was not done may as well not have come.
func TestRecoverEventsThatChangeNothing(t *testing.T) {
	from := drawn()
	for range 3000 {
		c := drawnRecovery(from, 40)
		var left []impl.RecoverEvent
		for i, outcome := range askRecovery(t, c) {
			if outcome == 0 {
				left = append(left, c.events[i])
			}
		}
		if got := askRecovery(t, recoverCase{c.need, c.delay, c.helpers, left}); len(got) != len(left) || len(got) > 0 && slices.Max(got) != 0 {
			t.Errorf("%s: got %v", shown(left), got)
		}
	}
}

// One hash and some codes as they are, so that no change of both ways of working them out goes unseen.
func TestProofsAsTheyAre(t *testing.T) {
	if got := hex.EncodeToString(impl.PassHash("Secret-7", []byte("salt"), 3)); got != "f6ace2722daa9d2fd7520d0074735f7d" {
		t.Errorf("PassHash: got %s", got)
	}
	var codes []string
	for counter := range 4 {
		codes = append(codes, impl.CodeOf([]byte("k"), counter, 6))
	}
	if got := strings.Join(codes, " "); got != "305974 224103 490976 653899" {
		t.Errorf("CodeOf: got %s", got)
	}
	if got := impl.AnswerChallenge(9, "o", []byte("c"), 4).Sig; got != (impl.Sig{R: 2048017691, Z: 199931523}) {
		t.Errorf("AnswerChallenge: got %s", shown(got))
	}
}
