package tests

import (
	"bytes"
	"math"
	"slices"
	"strconv"
	"strings"
	"testing"

	"loop.example/g00036/impl"
)

func askRing(t *testing.T, ring []impl.Key) bool {
	t.Helper()
	got := impl.GoodRing(ring)
	if want := goodRingByWords(ring); got != want {
		t.Errorf("GoodRing(%.300s): got %v", shown(ring), got)
	}
	return got
}

func TestTokenConstants(t *testing.T) {
	if got, want := []int{impl.MaxKeys, impl.MaxClaims, impl.MaxCapTerms}, []int{10, 4000, 20}; !slices.Equal(got, want) {
		t.Errorf("got %v, want %v", got, want)
	}
}

func TestGoodRing(t *testing.T) {
	for _, ring := range goodRings() {
		if !askRing(t, ring) {
			t.Errorf("%.300s: want it good", shown(ring))
		}
	}
	for _, ring := range badRings() {
		if askRing(t, ring) {
			t.Errorf("%.300s: want it not good", shown(ring))
		}
	}
	for many := range 30 {
		if askRing(t, countedKeys(many)) != (many <= 10) {
			t.Errorf("%d keys", many)
		}
	}
}

func TestGoodRingOfIds(t *testing.T) {
	ids := []string{"-", "-a", ".", "0", "00", "1", "10", "2", "A", "AA", "Z", "_", "a", "a-", "a.", "a0", "aA", "aa", "b"}
	for i, id := range ids {
		for j, other := range ids {
			if askRing(t, []impl.Key{keyOf(id, 1, 0, 9), keyOf(other, 2, 0, 9)}) != (i < j) {
				t.Errorf("%q ahead of %q", id, other)
			}
		}
	}
	for c := range 256 {
		for _, id := range []string{string([]byte{byte(c)}), "a" + string([]byte{byte(c)}), string([]byte{byte(c)}) + "a"} {
			askRing(t, []impl.Key{keyOf(id, 1, 0, 9)})
		}
	}
	for length := range 50 {
		if askRing(t, []impl.Key{keyOf(strings.Repeat("k", length), 1, 0, 9)}) != (1 <= length && length <= 40) {
			t.Errorf("an id of %d bytes", length)
		}
	}
}

// A public number is good if there is a right signature for it: then it signs, too, with the secret that it is of.
func TestGoodRingOfPublics(t *testing.T) {
	good := 0
	for num := range 2000 {
		for _, public := range []int{num, impl.Prime - num, impl.Prime + num, -num} {
			if askRing(t, []impl.Key{{Id: "k", Public: public, Until: 9}}) {
				good++
			}
		}
	}
	if !isBetween(good, 1900, 2100) {
		t.Errorf("%d public numbers are good: want about a half of those within the bounds", good)
	}
	for _, told := range []struct {
		public int
		want   bool
	}{{0, false}, {1, false}, {2, false}, {3, true}, {4, true}, {impl.Prime - 4, false}, {impl.Prime - 3, false}, {impl.Prime - 2, true}, {impl.Prime - 1, false}, {impl.Prime, false}, {impl.Prime + 1, false}, {impl.Prime + 3, false}, {impl.Prime + 4, false}} {
		if askRing(t, []impl.Key{{Id: "k", Public: told.public, Until: 9}}) != told.want {
			t.Errorf("%d: want %v", told.public, told.want)
		}
	}
	for _, secret := range goodSecrets() {
		if public := impl.PublicOf(secret); askRing(t, []impl.Key{{Id: "k", Public: public}}) != (public != 1) || askRing(t, []impl.Key{{Id: "k", Public: impl.Prime - public}}) {
			t.Errorf("the public number of %d, and its negative", secret)
		}
	}
	for _, secret := range badSecrets() {
		if askRing(t, []impl.Key{{Id: "k", Public: impl.PublicOf(secret)}}) {
			t.Errorf("%d is no secret", secret)
		}
	}
}

func TestGoodRingOfTimes(t *testing.T) {
	times := []int{math.MinInt, -lastTime, -1, 0, 1, 2, 50, lastTime - 1, lastTime, lastTime + 1, math.MaxInt}
	for _, from := range times {
		for _, until := range times {
			want := isBetween(from, 0, lastTime) && isBetween(until, 0, lastTime) && from <= until
			if askRing(t, []impl.Key{keyOf("k", 1, from, until)}) != want || askRing(t, []impl.Key{keyOf("a", 1, 0, 0), keyOf("k", 1, from, until), keyOf("l", 1, 5, 5)}) != want {
				t.Errorf("%d to %d: want %v", from, until, want)
			}
		}
	}
}

func askSign(t *testing.T, secret int, kid string, claims impl.Value) string {
	t.Helper()
	got := impl.SignToken(secret, kid, claims)
	if want := signTokenByWords(secret, kid, claims); got != want {
		t.Errorf("SignToken(%d, %.80q, %.200s): got %.200q, want %.200q", secret, kid, shown(claims), got, want)
	}
	return got
}

// Two tokens that were worked out outside of Go.
func TestSignToken(t *testing.T) {
	if got, want := askSign(t, 9, "k1", valueOf(`{aud:"api",exp:@50,nbf:@10,sub:"ann"}`)), "v1~k1~fdgnap1q49gn0q925hings1q80qj0b3ec9j3kg1h60m76tb278h62rje49ug~hhdao60skvriu"; got != want {
		t.Errorf("got %q, want %q", got, want)
	}
	if got, want := askSign(t, impl.Order-1, "K.2-_", valueOf("{}")), "v1~K.2-_~fdug~rclqo7or2fk02"; got != want {
		t.Errorf("got %q, want %q", got, want)
	}
}

func TestSignTokenOfSecretsAndKids(t *testing.T) {
	claims := valueOf(`{aud:"api",exp:@50}`)
	for _, secret := range append(goodSecrets(), 1, impl.Order-1) {
		if askSign(t, secret, "k1", claims) == "" {
			t.Errorf("%d: want a token", secret)
		}
	}
	for _, secret := range append(badSecrets(), 0, impl.Order) {
		if askSign(t, secret, "k1", claims) != "" {
			t.Errorf("%d: want none", secret)
		}
	}
	for _, k := range goodKeys() {
		if askSign(t, 9, k.Id, claims) == "" {
			t.Errorf("%q: want a token", k.Id)
		}
	}
	for _, id := range badIds() {
		if askSign(t, 9, id, claims) != "" {
			t.Errorf("%.80q: want none", id)
		}
	}
}

func TestSignTokenOfClaims(t *testing.T) {
	for _, told := range goodValues() {
		want := told.value.Kind == impl.ValueRecord && len(told.text) <= 4000
		if (askSign(t, 9, "k1", told.value) != "") != want {
			t.Errorf("%.200s: want a token: %v", told.text, want)
		}
	}
	for _, v := range badValues() {
		if askSign(t, 9, "k1", v) != "" {
			t.Errorf("%.200s: want none", shown(v))
		}
	}
	for _, length := range []int{500, 3998, 3999, 4000, 4001, 4002, 8000} {
		claims := claimsOfLength(length)
		if len(impl.ValueText(claims)) != length {
			t.Errorf("the claims have %d bytes, want %d", len(impl.ValueText(claims)), length)
		}
		text := askSign(t, 9, longId("k"), claims)
		if (text != "") != (length <= 4000) {
			t.Errorf("%d bytes: got %.50q", length, text)
		}
		wanted := 0
		if text == "" {
			wanted = 2
		}
		if got, err := askOpen(t, []impl.Key{keyOf(longId("k"), 9, 0, 60)}, text, "api", 20); err != wanted || wanted == 0 && !sameValue(got, claims) {
			t.Errorf("%d bytes: opened with %d", length, err)
		}
	}
}

func askOpen(t *testing.T, ring []impl.Key, text string, aud string, time int) (impl.Value, int) {
	t.Helper()
	got, err := impl.OpenToken(ring, text, aud, time)
	if want, wanted := openByWords(ring, text, aud, time); err != wanted || !sameValue(got, want) {
		t.Errorf("OpenToken(%.300s, %.200q, %.80q, %d): got %.200s, %d, want %.200s, %d", shown(ring), text, aud, time, shown(got), err, shown(want), wanted)
	}
	if err != 0 && !isZero(got) {
		t.Errorf("OpenToken with %d: got %.200s", err, shown(got))
	}
	return got, err
}

func wantOpen(t *testing.T, c tokenCase, want int) {
	t.Helper()
	got, err := askOpen(t, c.ring, c.text(), c.aud, c.time)
	if err != want {
		t.Errorf("%.300s, %s, %q, %d: got %d, want %d", shown(c.ring), c.claimsText(), c.aud, c.time, err, want)
	}
	if want == 0 && impl.ValueText(got) != c.claimsText() {
		t.Errorf("%s: opened to %s", c.claimsText(), impl.ValueText(got))
	}
}

// Promise 17: a token is opened to what was signed.
func TestATokenIsOpenedToWhatWasSigned(t *testing.T) {
	from := drawn()
	for _, told := range goodValues() {
		if told.value.Kind != impl.ValueRecord {
			continue
		}
		claims := withClaims(told.value, map[string]impl.Atom{"aud": textAtom("api"), "exp": timeAtom(50)})
		if !impl.GoodValue(claims) || len(impl.ValueText(claims)) > 4000 {
			continue
		}
		secret := 1 + from.Intn(impl.Order-1)
		text := askSign(t, secret, "k1", claims)
		got, err := askOpen(t, []impl.Key{keyOf("k1", secret, 0, 60)}, text, "api", 20)
		if err != 0 || !sameValue(got, claims) {
			t.Errorf("%.200s: opened to %.200s, %d", impl.ValueText(claims), shown(got), err)
		}
	}
}

// withClaims is the record with those atoms under those names, in place of its own.
func withClaims(v impl.Value, more map[string]impl.Atom) impl.Value {
	all := map[string]impl.Atom{}
	for i, name := range v.Names {
		all[name] = v.Items[i]
	}
	for name, a := range more {
		all[name] = a
	}
	out := recordValue(nil)
	for name := range all {
		out.Names = append(out.Names, name)
	}
	slices.Sort(out.Names)
	for _, name := range out.Names {
		out.Items = append(out.Items, all[name])
	}
	return out
}

func TestOpenTokenWithEachErrorAlone(t *testing.T) {
	wantOpen(t, plainTokenCase(), 0)
	for want, ways := range tokenFaults() {
		for _, spoil := range ways {
			c := plainTokenCase()
			spoil(&c)
			wantOpen(t, c, want)
		}
	}
}

// Where several errors hold the first is told: each way to each error is put together with those to the others.
func TestOpenTokenTellsTheFirstError(t *testing.T) {
	faults := tokenFaults()
	for bits := 1; bits < 128; bits++ {
		for turn := range 56 {
			c := plainTokenCase()
			want := 0
			// The last errors are made first, so that a ring that is not good stays so.
			for err := 7; err >= 1; err-- {
				if bits>>(err-1)&1 == 1 {
					faults[err][(turn+turn/8*err)%len(faults[err])](&c)
					want = err
				}
			}
			if len(c.ring) == 0 && want == 1 {
				continue
			}
			wantOpen(t, c, want)
		}
	}
}

func TestOpenTokenOfLongTexts(t *testing.T) {
	c := plainTokenCase()
	for _, told := range []struct{ length, want int }{{9999, 2}, {10000, 2}, {10001, 1}, {10002, 1}, {100000, 1}} {
		for _, letter := range []string{"0", "~", "v", "\xff", "v1~k1~"} {
			text := strings.Repeat(letter, told.length)[:told.length]
			for _, whole := range []string{text, (c.text() + text)[:told.length], ("v1~" + text)[:told.length], ("v1~k1~" + text)[:told.length]} {
				if _, err := askOpen(t, c.ring, whole, c.aud, c.time); err != told.want {
					t.Errorf("%d bytes, %.60q: got %d, want %d", told.length, whole, err, told.want)
				}
			}
		}
	}
	// A ring or a time that is not as said counts ahead of all forms.
	for _, text := range []string{"", "v1", c.text(), strings.Repeat("0", 10000)} {
		for _, ring := range badRings() {
			if _, err := askOpen(t, ring, text, c.aud, c.time); err != 1 {
				t.Errorf("%.200s, %.60q: got %d", shown(ring), text, err)
			}
		}
		for _, time := range []int{math.MinInt, -1, lastTime + 1, math.MaxInt} {
			if _, err := askOpen(t, c.ring, text, c.aud, time); err != 1 {
				t.Errorf("%d, %.60q: got %d", time, text, err)
			}
		}
	}
}

func TestOpenTokenOfWhatIsNone(t *testing.T) {
	c := plainTokenCase()
	for _, text := range formless() {
		want := 2
		if len(text) > 10000 {
			want = 1
		}
		for _, ring := range [][]impl.Key{c.ring, nil} {
			if _, err := askOpen(t, ring, text, c.aud, c.time); err != want {
				t.Errorf("%.200q: got %d, want %d", text, err, want)
			}
		}
	}
	// Claims that lack all that is asked for have the form.
	for _, claims := range []string{"{}", "{a:1}", `{a:""}`} {
		if _, err := askOpen(t, c.ring, signedAnyhow(c.secret, c.kid, claims), c.aud, c.time); err != 6 {
			t.Errorf("%s: got %d", claims, err)
		}
	}
}

// R and Z are any eight bytes in form; Verify says whether they can be a signature.
func TestOpenTokenOfSignatures(t *testing.T) {
	c := plainTokenCase()
	text := c.text()
	signed := text[:strings.LastIndex(text, "~")]
	sig := impl.Sign(c.secret, []byte(signed))
	ask := func(sig impl.Sig, want int) {
		t.Helper()
		if _, err := askOpen(t, c.ring, signed+"~"+sigTextByWords(sig), c.aud, c.time); err != want {
			t.Errorf("%v: got %d, want %d", sig, err, want)
		}
	}
	ask(sig, 0)
	for _, num := range []int{0, 1, 2, 255, 256, impl.Order - 1, impl.Order, impl.Order + 1, impl.Prime - 1, impl.Prime, impl.Prime + 1, 1 << 31, 1<<32 - 1} {
		ask(impl.Sig{R: num, Z: sig.Z}, 5)
		ask(impl.Sig{R: sig.R, Z: num}, 5)
		ask(impl.Sig{R: num, Z: num}, 5)
	}
	ask(impl.Sig{R: sig.Z, Z: sig.R}, 5)
	ask(impl.Sig{R: impl.Prime - sig.R, Z: sig.Z}, 5)
	for _, more := range []int{-1, 1, 1 << 8, 1 << 16, 1 << 24} {
		ask(impl.Sig{R: sig.R + more, Z: sig.Z}, 5)
		ask(impl.Sig{R: sig.R, Z: sig.Z + more}, 5)
	}
	// What is right but for a bound: the same powers, and the same remainders.
	ask(impl.Sig{R: sig.R, Z: sig.Z + impl.Order}, 5)
	ask(impl.Sig{R: sig.R, Z: sig.Z + 2*impl.Order}, 5)
	for k := 1; k <= 400; k++ {
		other := sigWith(c.secret, k, []byte(signed))
		ask(other, 0)
		if other.R+impl.Prime < 1<<32 {
			ask(impl.Sig{R: other.R + impl.Prime, Z: other.Z}, 5)
		}
	}
}

// Promise 17: what was not signed is not opened. Every byte of a token is changed to every other, left out, and put in.
func TestATokenWithAByteChangedIsNotOpened(t *testing.T) {
	c := plainTokenCase()
	c.claims = map[string]string{"aud": `"api"`, "exp": "@50"}
	text := c.text()
	seen := map[int]int{}
	ask := func(other string) {
		t.Helper()
		if other == text {
			return
		}
		_, err := askOpen(t, c.ring, other, c.aud, c.time)
		if err == 0 {
			t.Errorf("%q is opened as %q", other, text)
		}
		seen[err]++
	}
	for at := range text {
		ask(text[:at] + text[at+1:])
		for x := range 256 {
			single := string([]byte{byte(x)})
			ask(text[:at] + single + text[at+1:])
			ask(text[:at] + single + text[at:])
		}
	}
	for x := range 256 {
		ask(text + string([]byte{byte(x)}))
	}
	if seen[2] < 1000 || seen[3] < 50 || seen[5] < 200 || len(seen) != 3 {
		t.Errorf("the texts are not of all sorts: %v", seen)
	}
	// Parts of two right tokens make no third one.
	other := c
	other.claims = map[string]string{"aud": `"api"`, "exp": "@51"}
	mine, theirs := strings.Split(text, "~"), strings.Split(other.text(), "~")
	for bits := 1; bits < 8; bits++ {
		parts := slices.Clone(mine)
		for i := 1; i < 4; i++ {
			if bits>>(i-1)&1 == 1 {
				parts[i] = theirs[i]
			}
		}
		joined := strings.Join(parts, "~")
		if _, err := askOpen(t, c.ring, joined, c.aud, c.time); (err == 0) != (joined == text || joined == other.text()) {
			t.Errorf("%q: got %d", joined, err)
		}
	}
}

// The kid is signed, too: a token of one key is not one of another that has the same public number.
func TestOpenTokenOfAnotherKid(t *testing.T) {
	c := plainTokenCase()
	c.ring = []impl.Key{keyOf("k0", c.secret, 0, 60), keyOf("k1", c.secret, 0, 60), keyOf("k10", c.secret, 0, 60)}
	text := c.text()
	for _, told := range []struct {
		kid  string
		want int
	}{{"k0", 5}, {"k1", 0}, {"k10", 5}, {"k2", 3}, {"k", 3}, {"k100", 3}} {
		if _, err := askOpen(t, c.ring, strings.Replace(text, "~k1~", "~"+told.kid+"~", 1), c.aud, c.time); err != told.want {
			t.Errorf("%q: got %d, want %d", told.kid, err, told.want)
		}
	}
	// Each key opens its own alone, at the first and at the last place of a full ring as well.
	ring := countedKeys(10)
	for i, k := range ring {
		c.ring, c.kid = ring, k.Id
		for secret := 1; secret <= 11; secret++ {
			c.secret = secret
			want := 5
			if secret == i+1 {
				want = 0
			}
			wantOpen(t, c, want)
		}
	}
}

// Promise 17: in its time. Each bound is met exactly, and gone beyond by one.
func TestATokenIsOpenedInTheTimeOfItsKey(t *testing.T) {
	for _, told := range [][2]int{{0, 0}, {0, 1}, {5, 60}, {20, 20}, {0, lastTime}, {lastTime, lastTime}, {lastTime - 1, lastTime}} {
		for _, time := range []int{0, 1, 2, 4, 5, 6, 19, 20, 21, 59, 60, 61, lastTime - 2, lastTime - 1, lastTime} {
			c := plainTokenCase()
			c.claims = map[string]string{"aud": `"api"`, "exp": "@100000000000"}
			c.ring, c.time = changedKeys(c.ring, "k1", told[0], told[1]), time
			want := 0
			if time < told[0] || time > told[1] {
				want = 4
			}
			wantOpen(t, c, want)
		}
	}
}

func TestATokenIsOpenedInItsTime(t *testing.T) {
	for time := range 61 {
		for _, told := range []struct {
			from, until string
			want        bool
		}{
			{"@10", "@50", 10 <= time && time <= 50},
			{"", "@50", time <= 50},
			{"@-5", "@50", time <= 50},
			{"@0", "@0", time == 0},
			{"@30", "@30", time == 30},
			{"@31", "@30", false},
			{"@50", "@10", false},
			{"@10", "", false},
			{"", "", false},
			{"@10", "@-1", false},
			{"@-100000000000", "@100000000000", true},
			{"@100000000000", "@100000000000", false},
		} {
			c := plainTokenCase()
			c.ring, c.time = changedKeys(c.ring, "k1", 0, 60), time
			delete(c.claims, "nbf")
			delete(c.claims, "exp")
			if told.from != "" {
				c.claims["nbf"] = told.from
			}
			if told.until != "" {
				c.claims["exp"] = told.until
			}
			want := 6
			if told.want {
				want = 0
			}
			wantOpen(t, c, want)
		}
	}
	for _, time := range []int{0, 1, lastTime - 1, lastTime} {
		c := plainTokenCase()
		c.ring, c.time = changedKeys(c.ring, "k1", 0, lastTime), time
		for _, told := range []struct {
			from, until string
			want        int
		}{{"@0", "@100000000000", 0}, {"@0", "@99999999999", 6 * (time / lastTime)}, {"@100000000000", "@100000000000", 6 - 6*(time/lastTime)}, {"@1", "@100000000000", 6 - 6*min(time, 1)}} {
			c.claims["nbf"], c.claims["exp"] = told.from, told.until
			wantOpen(t, c, told.want)
		}
	}
}

// Only a time is one: no other atom is, whatever its number.
func TestOpenTokenOfTimesThatAreNone(t *testing.T) {
	for _, a := range goodAtoms() {
		for _, name := range []string{"nbf", "exp"} {
			for _, time := range []int{0, 7, 20} {
				c := plainTokenCase()
				c.ring, c.time = changedKeys(c.ring, "k1", 0, 60), time
				c.claims["nbf"] = "@0"
				c.claims[name] = a.text
				want := 6
				if a.atom.Kind == impl.TimeAtom && (name == "nbf" && a.atom.Num <= time || name == "exp" && a.atom.Num >= time) {
					want = 0
				}
				wantOpen(t, c, want)
			}
		}
	}
	// Claims with other names count for nothing.
	for _, name := range []string{"Exp", "EXP", "ex", "expp", "iat", "nb", "nbff", "NBF", "time"} {
		c := plainTokenCase()
		c.claims[name] = "@21"
		wantOpen(t, c, 0)
		delete(c.claims, "exp")
		wantOpen(t, c, 6)
	}
}

// Promise 17: for its audience.
func TestATokenIsOpenedForItsAudience(t *testing.T) {
	audiences := []string{"", " ", "a", "A", "api", "API", "api ", " api", "ap", "apis", "web", "a,b", `"`, `\`, `"api"`, "~", strings.Repeat("x", 199), strings.Repeat("x", 200)}
	for _, own := range audiences {
		c := plainTokenCase()
		c.claims["aud"] = impl.AtomText(textAtom(own))
		for _, aud := range append(audiences, strings.Repeat("x", 201), strings.Repeat("x", 100000), "\x00", "\xff", "é", "api\n") {
			c.aud = aud
			want := 7
			if own == aud {
				want = 0
			}
			wantOpen(t, c, want)
		}
	}
	for _, a := range goodAtoms() {
		c := plainTokenCase()
		c.claims["aud"] = a.text
		for _, aud := range []string{a.atom.Text, a.text, ""} {
			c.aud = aud
			want := 7
			if a.atom.Kind == impl.TextAtom && a.atom.Text == aud {
				want = 0
			}
			wantOpen(t, c, want)
		}
	}
	for _, aud := range []string{"", "api"} {
		c := plainTokenCase()
		c.aud = aud
		delete(c.claims, "aud")
		wantOpen(t, c, 7)
		c.claims["Aud"], c.claims["audience"] = `"api"`, `""`
		wantOpen(t, c, 7)
	}
}

func TestOpenTokenOfDrawnTokens(t *testing.T) {
	from := drawn()
	seen := [8]int{}
	for range 20000 {
		c := drawnTokenCase(from)
		_, err := askOpen(t, c.ring, c.text(), c.aud, c.time)
		seen[err]++
	}
	if slices.Min(seen[:]) < 300 {
		t.Errorf("the tokens have too few errors of a sort: %v", seen)
	}
}

func askRotate(t *testing.T, c rotateCase) []impl.Key {
	t.Helper()
	got := impl.RotateRing(c.ring, c.next, c.time, c.grace)
	if want := rotateByWords(c.ring, c.next, c.time, c.grace); !slices.Equal(got, want) {
		t.Errorf("RotateRing(%.600s, %s, %d, %d): got %s, want %s", shown(c.ring), shown(c.next), c.time, c.grace, shown(got), shown(want))
	}
	if len(got) > 0 && !impl.GoodRing(got) {
		t.Errorf("RotateRing: %s is no good ring", shown(got))
	}
	return got
}

func wantRotated(t *testing.T, c rotateCase, want ...impl.Key) {
	t.Helper()
	if got := askRotate(t, c); !slices.Equal(got, want) {
		t.Errorf("%.600s, %s, %d, %d: got %s, want %s", shown(c.ring), shown(c.next), c.time, c.grace, shown(got), shown(want))
	}
}

func TestRotateRing(t *testing.T) {
	c := plainRotateCase()
	wantRotated(t, c, keyOf("b", 2, 0, 20), keyOf("c", 6, 20, 200), keyOf("d", 3, 5, 25), keyOf("f", 5, 25, 25))
	c.ring = nil
	wantRotated(t, c, c.next)
	c.ring = []impl.Key{}
	c.time, c.grace = 0, 0
	wantRotated(t, c, c.next)
}

func TestRotateRingAtItsBounds(t *testing.T) {
	next := keyOf("z", 9, 0, 1)
	for until := 10; until <= 40; until++ {
		for from := 0; from <= until; from++ {
			for _, grace := range []int{0, 1, 5} {
				var want []impl.Key
				if until >= 20 && from <= 20+grace {
					want = append(want, keyOf("k", 1, from, min(until, 20+grace)))
				}
				wantRotated(t, rotateCase{[]impl.Key{keyOf("k", 1, from, until)}, next, 20, grace}, append(want, next)...)
			}
		}
	}
	// The time and the grace may be beyond MaxTime together; no Until is.
	for _, told := range []struct{ time, grace int }{{lastTime, 0}, {lastTime, 1}, {lastTime, lastTime}, {lastTime - 1, 1}, {lastTime - 1, 2}, {0, lastTime}, {1, lastTime}} {
		all := keyOf("k", 1, 0, lastTime)
		wantRotated(t, rotateCase{[]impl.Key{all}, next, told.time, told.grace}, all, next)
	}
	wantRotated(t, rotateCase{[]impl.Key{keyOf("k", 1, lastTime, lastTime)}, next, lastTime - 1, 0}, next)
	wantRotated(t, rotateCase{[]impl.Key{keyOf("k", 1, lastTime, lastTime)}, next, lastTime - 1, 1}, keyOf("k", 1, lastTime, lastTime), next)
	for _, time := range []int{math.MinInt, -1, lastTime + 1, math.MaxInt} {
		for _, other := range []int{0, 5, lastTime} {
			wantRotated(t, rotateCase{countedKeys(3), next, time, other})
			wantRotated(t, rotateCase{countedKeys(3), next, other, time})
			wantRotated(t, rotateCase{nil, next, other, time})
			wantRotated(t, rotateCase{nil, next, time, other})
		}
	}
}

func TestRotateRingOfNextKeys(t *testing.T) {
	for _, k := range goodKeys() {
		// The next key is taken as it is, however early it ends.
		wantRotated(t, rotateCase{nil, k, 20, 5}, k)
		wantRotated(t, rotateCase{nil, k, lastTime, 0}, k)
		if got := askRotate(t, rotateCase{[]impl.Key{keyOf("l", 3, 0, 60)}, k, 20, 5}); len(got) != 2 || !slices.Contains(got, k) {
			t.Errorf("%s: got %s", shown(k), shown(got))
		}
	}
	for _, k := range badKeys() {
		wantRotated(t, rotateCase{nil, k, 20, 5})
		wantRotated(t, rotateCase{countedKeys(3), k, 20, 5})
		wantRotated(t, rotateCase{[]impl.Key{keyOf("k1", 1, 0, 9)}, k, 20, 5})
	}
	// Its place is by its id: ahead, between and behind.
	ring := []impl.Key{keyOf("b", 1, 0, 60), keyOf("d", 2, 0, 60)}
	for place, id := range []string{"a", "c", "e"} {
		next := keyOf(id, 3, 0, 60)
		wantRotated(t, rotateCase{ring, next, 20, 50}, slices.Insert(slices.Clone(ring), place, next)...)
	}
	// An id that is there already is taken only where its key goes.
	for _, id := range []string{"b", "d"} {
		wantRotated(t, rotateCase{ring, keyOf(id, 3, 0, 60), 20, 50})
		wantRotated(t, rotateCase{ring, keyOf(id, 1, 0, 60), 60, 0})
		wantRotated(t, rotateCase{ring, keyOf(id, 3, 0, 60), 61, 0}, keyOf(id, 3, 0, 60))
	}
	late := []impl.Key{keyOf("b", 1, 26, 60), keyOf("d", 2, 0, 60)}
	wantRotated(t, rotateCase{late, keyOf("b", 3, 0, 60), 20, 5}, keyOf("b", 3, 0, 60), keyOf("d", 2, 0, 25))
	wantRotated(t, rotateCase{late, keyOf("b", 3, 0, 60), 20, 6})
	for _, bad := range badRings() {
		wantRotated(t, rotateCase{bad, keyOf("z", 3, 0, 60), 20, 5})
	}
}

func TestRotateRingOfManyKeys(t *testing.T) {
	next := keyOf("next", 99, 0, 60)
	for many := range 12 {
		for gone := range many + 1 {
			ring := countedKeys(many)
			for i := range ring {
				ring[i].From, ring[i].Until = 0, 60
				if i < gone {
					ring[i].Until = 19
				}
			}
			got := askRotate(t, rotateCase{ring, next, 20, 60})
			want := many - gone + 1
			if many > 10 || want > 10 {
				want = 0
			}
			if len(got) != want {
				t.Errorf("%d keys, of which %d go: got %d, want %d", many, gone, len(got), want)
			}
		}
	}
}

func TestRotateRingOfDrawnRings(t *testing.T) {
	from := drawn()
	rotated := [12]int{}
	for range 30000 {
		rotated[len(askRotate(t, drawnRotateCase(from)))]++
	}
	if slices.Min(rotated[:9]) < 50 {
		t.Errorf("too few rings of a length: %v", rotated)
	}
}

// A ring that was rotated opens what the old one opened, till the grace is over, and no longer.
func TestARotatedRingOpensTillTheGraceIsOver(t *testing.T) {
	c := plainTokenCase()
	c.claims = map[string]string{"aud": `"api"`, "exp": "@1000"}
	c.ring = []impl.Key{keyOf("k1", c.secret, 5, 60)}
	text := c.text()
	rotated := impl.RotateRing(c.ring, keyOf("k2", 7, 20, 90), 20, 5)
	for time := range 100 {
		_, before := askOpen(t, c.ring, text, c.aud, time)
		_, after := askOpen(t, rotated, text, c.aud, time)
		want := before
		if time > 25 {
			want = 4
		}
		if after != want {
			t.Errorf("at %d: got %d behind %d, want %d", time, after, before, want)
		}
	}
}

func askTermText(t *testing.T, term impl.CavTerm) string {
	t.Helper()
	got := impl.TermText(term)
	if want := termTextByWords(term); got != want {
		t.Errorf("TermText(%.200s): got %.200q, want %.200q", shown(term), got, want)
	}
	return got
}

func TestTermText(t *testing.T) {
	for _, told := range goodCapTerms() {
		if got := askTermText(t, told.term); got != told.text {
			t.Errorf("%.200s: got %.200q, want %.200q", shown(told.term), got, told.text)
		}
	}
	for _, term := range badCapTerms() {
		if got := askTermText(t, term); got != "" {
			t.Errorf("%.200s: got %.200q", shown(term), got)
		}
	}
}

func TestTermTextOfOpsAndKinds(t *testing.T) {
	takes := [5][]int{1: {2, 3, 5, 7}, 2: {2, 3, 5, 7}, 3: {2, 3, 5, 7}, 4: {6}}
	for op := -1; op <= 6; op++ {
		for _, g := range goodAtoms() {
			want := isBetween(op, 1, 4) && slices.Contains(takes[op], g.atom.Kind)
			if got := askTermText(t, atomTerm("a", op, g.atom)); (got != "") != want {
				t.Errorf("Op %d, %.80s: got %.80q", op, g.text, got)
			}
		}
	}
}

// No two terms have one text, so that a tag is of one row of terms.
func TestTermsHaveTextsOfTheirOwn(t *testing.T) {
	seen := map[string]impl.CavTerm{}
	from := drawn()
	var terms []impl.CavTerm
	for _, told := range goodCapTerms() {
		terms = append(terms, told.term)
	}
	for range 5000 {
		terms = append(terms, drawnTerm(from), fitTerm(from))
	}
	for _, term := range terms {
		text := askTermText(t, term)
		if other, ok := seen[text]; ok && other != term {
			t.Errorf("%q is of two terms: %s and %s", text, shown(other), shown(term))
		}
		seen[text] = term
	}
}

func askCap(t *testing.T, root []byte, id string) impl.Cap {
	t.Helper()
	got := impl.MakeCap(root, id)
	if want := capByWords(root, id); !sameCap(got, want) {
		t.Errorf("MakeCap(%.80q, %.80q): got %s, want %s", root, id, shown(got), shown(want))
	}
	return got
}

func TestMakeCap(t *testing.T) {
	for _, length := range []int{0, 1, 16, 63, 64, 65, 66, 1000, 20000, 20001, 100000} {
		for _, x := range []byte{0, 'r', 255} {
			got := askCap(t, bytes.Repeat([]byte{x}, length), "doc1")
			if (got.Id == "doc1") != (length <= 64) || (len(got.Tag) == 16) != (length <= 64) || len(got.Terms) != 0 {
				t.Errorf("a root of %d bytes: got %s", length, shown(got))
			}
		}
	}
	for _, k := range goodKeys() {
		if got := askCap(t, []byte("root"), k.Id); got.Id != k.Id || !bytes.Equal(got.Tag, macByWords([]byte("root"), []byte(k.Id))) {
			t.Errorf("%q: got %s", k.Id, shown(got))
		}
	}
	for _, id := range badIds() {
		if got := askCap(t, []byte("root"), id); !sameCap(got, impl.Cap{}) {
			t.Errorf("%.80q: got %s", id, shown(got))
		}
	}
}

func askLess(t *testing.T, c impl.Cap, term impl.CavTerm) impl.Cap {
	t.Helper()
	got := impl.Attenuate(c, term)
	if want := attenuateByWords(c, term); !sameCap(got, want) {
		t.Errorf("Attenuate(%.300s, %.200s): got %.300s, want %.300s", shown(c), shown(term), shown(got), shown(want))
	}
	return got
}

func TestAttenuate(t *testing.T) {
	term := countedTerms(1)[0]
	for _, c := range goodCaps() {
		got := askLess(t, c, term)
		if len(c.Terms) == 20 {
			if !sameCap(got, impl.Cap{}) {
				t.Errorf("20 terms: got %.200s", shown(got))
			}
			continue
		}
		if got.Id != c.Id || len(got.Terms) != len(c.Terms)+1 || got.Terms[len(c.Terms)] != term || !bytes.Equal(got.Tag, macByWords(c.Tag, []byte("n < 1"))) {
			t.Errorf("%.200s: got %.200s", shown(c), shown(got))
		}
	}
	for _, c := range badCaps() {
		if got := askLess(t, c, term); !sameCap(got, impl.Cap{}) {
			t.Errorf("%.200s: got %.200s", shown(c), shown(got))
		}
	}
	plain := impl.MakeCap([]byte("root"), "doc1")
	for _, told := range goodCapTerms() {
		if got := askLess(t, plain, told.term); len(got.Terms) != 1 || !bytes.Equal(got.Tag, impl.Mac(plain.Tag, []byte(told.text))) {
			t.Errorf("%.200s: got %.200s", told.text, shown(got))
		}
	}
	for _, bad := range badCapTerms() {
		if got := askLess(t, plain, bad); !sameCap(got, impl.Cap{}) {
			t.Errorf("%.200s: got %.200s", shown(bad), shown(got))
		}
	}
}

func TestAttenuateTermByTerm(t *testing.T) {
	root := []byte("root")
	for _, terms := range [][]impl.CavTerm{countedTerms(22), slices.Repeat([]impl.CavTerm{longestTerm()}, 22), slices.Repeat(countedTerms(1), 22)} {
		c := impl.MakeCap(root, "doc1")
		for i, term := range terms {
			next := askLess(t, c, term)
			if i == 20 {
				if !sameCap(next, impl.Cap{}) {
					t.Errorf("term %d: got %.200s", i, shown(next))
				}
				break
			}
			if !sameCap(next, capByWords(root, "doc1", terms[:i+1]...)) {
				t.Errorf("term %d: got %.200s", i, shown(next))
			}
			askCheck(t, root, next, valueOf("{n:0}"))
			c = next
		}
		// Two that go on from one capability do not get into each other.
		c.Terms = c.Terms[:10:20]
		one, other := impl.Attenuate(c, atomTerm("a", impl.OpLess, numAtom(1))), impl.Attenuate(c, atomTerm("b", impl.OpLess, numAtom(1)))
		if one.Terms[10].Left != "a" || other.Terms[10].Left != "b" {
			t.Errorf("two from one: %.300s, %.300s", shown(one), shown(other))
		}
	}
}

func askCheck(t *testing.T, root []byte, c impl.Cap, given impl.Value) int {
	t.Helper()
	got := impl.CheckCap(root, c, given)
	if want := checkCapByWords(root, c, given); got != want {
		t.Errorf("CheckCap(%.80q, %.300s, %.200s): got %d, want %d", root, shown(c), shown(given), got, want)
	}
	return got
}

func wantCheck(t *testing.T, root []byte, c impl.Cap, given impl.Value, want int) {
	t.Helper()
	if got := askCheck(t, root, c, given); got != want {
		t.Errorf("%.80q, %.300s, %.200s: got %d, want %d", root, shown(c), shown(given), got, want)
	}
}

func TestCheckCap(t *testing.T) {
	root := []byte("root")
	used := atomTerm("used", impl.OpLess, numAtom(3))
	until := atomTerm("now", impl.OpMost, timeAtom(50))
	from := atomTerm("from", impl.OpIn, addrAtom(10<<24, 8))
	who := atomTerm("who", impl.OpSame, textAtom("ann"))
	sum := atomTerm("sum", impl.OpLess, decAtom(15000))
	for _, told := range []struct {
		terms []impl.CavTerm
		given string
		want  int
	}{
		{nil, "{}", impl.Yes},
		{nil, "{used:3}", impl.Yes},
		{[]impl.CavTerm{used}, "{used:2}", impl.Yes},
		{[]impl.CavTerm{used}, "{used:3}", impl.No},
		{[]impl.CavTerm{used}, "{}", impl.Maybe},
		{[]impl.CavTerm{used}, "{use:2,useds:2}", impl.Maybe},
		{[]impl.CavTerm{used}, "{used:2.0000}", impl.Maybe},
		{[]impl.CavTerm{used}, "{used:@2}", impl.Maybe},
		{[]impl.CavTerm{used}, `{used:"2"}`, impl.Maybe},
		{[]impl.CavTerm{used}, "{used:true}", impl.Maybe},
		{[]impl.CavTerm{used}, "{used:0.0.0.2/32}", impl.Maybe},
		{[]impl.CavTerm{until}, "{now:@49}", impl.Yes},
		{[]impl.CavTerm{until}, "{now:@50}", impl.Yes},
		{[]impl.CavTerm{until}, "{now:@51}", impl.No},
		{[]impl.CavTerm{until}, "{now:49}", impl.Maybe},
		{[]impl.CavTerm{from}, "{from:10.0.0.0/8}", impl.Yes},
		{[]impl.CavTerm{from}, "{from:10.1.2.3/32}", impl.Yes},
		{[]impl.CavTerm{from}, "{from:10.0.0.0/7}", impl.No},
		{[]impl.CavTerm{from}, "{from:11.0.0.0/8}", impl.No},
		{[]impl.CavTerm{from}, `{from:"10.0.0.0/8"}`, impl.Maybe},
		{[]impl.CavTerm{who}, `{who:"ann"}`, impl.Yes},
		{[]impl.CavTerm{who}, `{who:"Ann"}`, impl.No},
		{[]impl.CavTerm{who}, `{who:User::"ann"}`, impl.Maybe},
		{[]impl.CavTerm{sum}, "{sum:1.4999}", impl.Yes},
		{[]impl.CavTerm{sum}, "{sum:1.5000}", impl.No},
		{[]impl.CavTerm{sum}, "{sum:1}", impl.Maybe},
		{[]impl.CavTerm{used, until}, "{now:@50,used:2}", impl.Yes},
		{[]impl.CavTerm{used, until}, "{now:@50}", impl.Maybe},
		{[]impl.CavTerm{used, until}, "{used:2}", impl.Maybe},
		{[]impl.CavTerm{used, until}, "{used:3}", impl.No},
		{[]impl.CavTerm{used, until}, "{now:@51}", impl.No},
		{[]impl.CavTerm{until, used}, "{now:@51}", impl.No},
		{[]impl.CavTerm{until, used}, "{used:3}", impl.No},
		{[]impl.CavTerm{used, who, until, from, sum}, `{from:10.9.0.0/16,now:@0,sum:-1.0000,used:-1,who:"ann"}`, impl.Yes},
		{[]impl.CavTerm{used, who, until, from, sum}, `{from:10.9.0.0/16,now:@0,sum:1.5000,used:-1,who:"ann"}`, impl.No},
		{[]impl.CavTerm{used, used, atomTerm("used", impl.OpLess, numAtom(2))}, "{used:1}", impl.Yes},
		{[]impl.CavTerm{used, used, atomTerm("used", impl.OpLess, numAtom(2))}, "{used:2}", impl.No},
		{[]impl.CavTerm{used, atomTerm("used", impl.OpLess, decAtom(2))}, "{used:1}", impl.Maybe},
		{[]impl.CavTerm{used, atomTerm("used", impl.OpLess, decAtom(2))}, "{used:3}", impl.No},
	} {
		c := impl.MakeCap(root, "doc1")
		for _, term := range told.terms {
			c = impl.Attenuate(c, term)
		}
		wantCheck(t, root, c, valueOf(told.given), told.want)
		// Of another root it is none, whatever its terms say.
		wantCheck(t, []byte("toor"), c, valueOf(told.given), impl.No)
		wantCheck(t, nil, c, valueOf(told.given), impl.No)
	}
}

func TestCheckCapOfWhatIsNotAsSaid(t *testing.T) {
	root, given := []byte("root"), valueOf("{n:0}")
	for _, c := range badCaps() {
		for _, r := range [][]byte{root, nil} {
			wantCheck(t, r, c, given, -1)
			wantCheck(t, r, c, valueOf("{}"), -1)
		}
	}
	good := capByWords(root, "doc1", countedTerms(2)...)
	forged := impl.Cap{Id: "doc1", Terms: countedTerms(2), Tag: make([]byte, 16)}
	wantCheck(t, root, good, given, impl.Yes)
	wantCheck(t, root, forged, given, impl.No)
	for _, v := range append(badValues(), atomValue(numAtom(1)), setValue(), setValue(numAtom(1)), impl.Value{}) {
		wantCheck(t, root, good, v, -1)
		wantCheck(t, root, forged, v, -1)
		wantCheck(t, root, impl.MakeCap(root, "doc1"), v, -1)
	}
	for _, length := range []int{0, 1, 63, 64} {
		r := bytes.Repeat([]byte{7}, length)
		wantCheck(t, r, capByWords(r, "doc1", countedTerms(2)...), given, impl.Yes)
		wantCheck(t, r, good, given, impl.No)
	}
	for _, length := range []int{65, 66, 20000, 20001, 100000} {
		r := bytes.Repeat([]byte{7}, length)
		// What such a root would come to is no tag.
		wantCheck(t, r, impl.Cap{Id: "doc1", Tag: impl.Mac(r, []byte("doc1"))}, valueOf("{}"), -1)
		wantCheck(t, r, good, given, -1)
		wantCheck(t, r, forged, given, -1)
	}
	for _, told := range goodValues() {
		want := -1
		if told.value.Kind == impl.ValueRecord {
			want = impl.Yes
		}
		wantCheck(t, root, impl.MakeCap(root, "doc1"), told.value, want)
	}
}

// Only the very terms, in their order, and the very tag are what came from the root.
func TestCheckCapOfChangedCaps(t *testing.T) {
	root, given := []byte("root"), valueOf("{n:0}")
	for _, many := range []int{1, 2, 3, 19, 20} {
		c := capByWords(root, "doc1", countedTerms(many)...)
		wantCheck(t, root, c, given, impl.Yes)
		for i := range many {
			left := impl.Cap{Id: c.Id, Terms: slices.Delete(slices.Clone(c.Terms), i, i+1), Tag: c.Tag}
			wantCheck(t, root, left, given, impl.No)
			wantCheck(t, root, left, valueOf("{}"), impl.No)
			changed := impl.Cap{Id: c.Id, Terms: slices.Clone(c.Terms), Tag: c.Tag}
			changed.Terms[i].Atom.Num++
			wantCheck(t, root, changed, given, impl.No)
			for j := range i {
				swapped := impl.Cap{Id: c.Id, Terms: slices.Clone(c.Terms), Tag: c.Tag}
				swapped.Terms[i], swapped.Terms[j] = swapped.Terms[j], swapped.Terms[i]
				wantCheck(t, root, swapped, given, impl.No)
			}
		}
		for i := range many + 1 {
			more := impl.Cap{Id: c.Id, Terms: slices.Insert(slices.Clone(c.Terms), i, atomTerm("n", impl.OpLess, numAtom(50))), Tag: c.Tag}
			want := impl.No
			if many == 20 {
				want = -1
			}
			wantCheck(t, root, more, given, want)
		}
		for i := range 16 {
			for _, x := range []byte{1, 16, 128, 255} {
				tag := bytes.Clone(c.Tag)
				tag[i] ^= x
				wantCheck(t, root, impl.Cap{Id: c.Id, Terms: c.Terms, Tag: tag}, given, impl.No)
				wantCheck(t, root, impl.Cap{Id: c.Id, Terms: c.Terms, Tag: tag}, valueOf("{}"), impl.No)
			}
		}
		for _, id := range []string{"doc2", "doc", "doc10", "Doc1", "1"} {
			wantCheck(t, root, impl.Cap{Id: id, Terms: c.Terms, Tag: c.Tag}, given, impl.No)
		}
		for cut := range many {
			// An earlier tag goes with fewer terms, not with these.
			wantCheck(t, root, impl.Cap{Id: c.Id, Terms: c.Terms, Tag: tagByWords(root, c.Id, c.Terms[:cut])}, given, impl.No)
			wantCheck(t, root, impl.Cap{Id: c.Id, Terms: c.Terms[:cut], Tag: tagByWords(root, c.Id, c.Terms[:cut])}, given, impl.Yes)
		}
	}
}

// Promise 17: a capability with a term more is never more than without it. Drawn ones, right and forged, with all that is given or a part of it.
func TestATermMoreIsNeverMore(t *testing.T) {
	from := drawn()
	seen := map[[2]int]int{}
	for range 12000 {
		root := drawnBytes(from, from.Intn(4))
		c := capByWords(root, "doc1", drawnTerms(from, 4)...)
		switch from.Intn(8) {
		case 0:
			c.Tag = drawnBytes(from, 16)
		case 1:
			c.Terms = append(c.Terms, fitTerm(from))
		}
		given := drawnFit(from)
		given = partOf(given, from.Intn(1<<len(given.Names))|from.Intn(1<<len(given.Names)))
		term := fitTerm(from)
		without, with := askCheck(t, root, c, given), askCheck(t, root, askLess(t, c, term), given)
		if rankOf(with) > rankOf(without) {
			t.Errorf("%s is %d, and %d with %s", shown(c), without, with, shown(term))
		}
		if alone := capTermByWords(term, given); rankOf(with) != min(rankOf(without), rankOf(alone)) {
			t.Errorf("%s is %d, its term %d, and both are %d", shown(c), without, alone, with)
		}
		seen[[2]int{without, with}]++
	}
	if len(seen) != 6 {
		t.Errorf("not all that may come has come: %v", seen)
	}
	for pair, count := range seen {
		if count < 300 {
			t.Errorf("%v has come only %d times", pair, count)
		}
	}
}

// So it is along a whole row of terms; and what is decided with a part of what is given stays so with more.
func TestMoreTermsAreNeverMore(t *testing.T) {
	from := drawn()
	for range 500 {
		root := []byte("root")
		c := impl.MakeCap(root, "doc1")
		given := drawnFit(from)
		before := askCheck(t, root, c, given)
		if before != impl.Yes {
			t.Errorf("no terms: got %d", before)
		}
		for range 20 {
			c = impl.Attenuate(c, fitTerm(from))
			now := askCheck(t, root, c, given)
			if rankOf(now) > rankOf(before) {
				t.Errorf("%.300s: %d behind %d", shown(c), now, before)
			}
			before = now
		}
		for bits := range 1 << len(given.Names) {
			if part := askCheck(t, root, c, partOf(given, bits)); part != impl.Maybe && part != before {
				t.Errorf("%.300s: %d with a part, %d with all", shown(c), part, before)
			}
		}
	}
}

// Where Macs clash one term does for another: what counts is the tag that comes out.
func TestTermsWhoseMacsClash(t *testing.T) {
	one, other := clashingTexts()
	if one == other || !bytes.Equal(digestByWords([]byte(one)), digestByWords([]byte(other))) || !bytes.Equal(impl.Digest([]byte("a"+one+"b")), impl.Digest([]byte("a"+other+"b"))) {
		t.Fatalf("%q and %q do not clash", one, other)
	}
	root := []byte("root")
	for _, op := range []int{impl.OpSame, impl.OpLess, impl.OpMost} {
		first, second := atomTerm("who", op, textAtom(one)), atomTerm("who", op, textAtom(other))
		c := impl.Attenuate(impl.MakeCap(root, "doc1"), first)
		changed := impl.Cap{Id: "doc1", Terms: []impl.CavTerm{second}, Tag: c.Tag}
		if !sameCap(changed, capByWords(root, "doc1", second)) {
			t.Errorf("Op %d: want one tag for both", op)
		}
		for _, who := range []string{one, other, "", "zzz"} {
			given := recordValue([]string{"who"}, textAtom(who))
			wantCheck(t, root, c, given, capTermByWords(first, given))
			wantCheck(t, root, changed, given, capTermByWords(second, given))
		}
		wantCheck(t, []byte("toor"), changed, valueOf("{}"), impl.No)
	}
	// So it is with ids, of capabilities and of keys.
	wantCheck(t, root, impl.Cap{Id: other, Tag: impl.MakeCap(root, one).Tag}, valueOf("{}"), impl.Yes)
	c := plainTokenCase()
	c.kid = one
	for _, secret := range []int{c.secret, c.secret + 1} {
		want := 5 * (secret - c.secret)
		ring := []impl.Key{keyOf(one, c.secret, 0, 60), keyOf(other, secret, 0, 60)}
		slices.SortFunc(ring, func(a, b impl.Key) int { return strings.Compare(a.Id, b.Id) })
		if _, err := askOpen(t, ring, strings.Replace(c.text(), one, other, 1), c.aud, c.time); err != want {
			t.Errorf("another kid: got %d, want %d", err, want)
		}
	}
}

// Promise 17, but where Macs clash: a tag that is not the right one comes to the right one with a term more, if their digests clash.
func TestATermMoreIsMoreWhereMacsClash(t *testing.T) {
	root, term := []byte("root"), countedTerms(1)[0]
	found := 0
	for i := range 20000 {
		own := impl.MakeCap(root, "doc"+strconv.Itoa(i))
		tag, ok := clashingTag(own.Tag)
		if !ok {
			continue
		}
		found++
		forged := impl.Cap{Id: own.Id, Tag: tag}
		wantCheck(t, root, own, valueOf("{n:0}"), impl.Yes)
		wantCheck(t, root, forged, valueOf("{n:0}"), impl.No)
		for _, told := range []struct {
			given string
			want  int
		}{{"{n:0}", impl.Yes}, {"{}", impl.Maybe}, {"{n:1}", impl.No}} {
			wantCheck(t, root, askLess(t, forged, term), valueOf(told.given), told.want)
			wantCheck(t, root, askLess(t, own, term), valueOf(told.given), told.want)
		}
	}
	if found < 5 {
		t.Errorf("only %d tags have one that they clash with", found)
	}
}

func askCapText(t *testing.T, c impl.Cap) string {
	t.Helper()
	got := impl.CapText(c)
	if want := capTextByWords(c); got != want {
		t.Errorf("CapText(%.300s): got %.200q, want %.200q", shown(c), got, want)
	}
	return got
}

func askReadCap(t *testing.T, text string) (impl.Cap, bool) {
	t.Helper()
	got, ok := impl.ReadCap(text)
	if want, wanted := readCapByWords(text); ok != wanted || !sameCap(got, want) {
		t.Errorf("ReadCap(%.200q): got %.300s, %v, want %.300s, %v", text, shown(got), ok, shown(want), wanted)
	}
	return got, ok
}

// Three texts that were worked out outside of Go.
func TestCapText(t *testing.T) {
	root := []byte("root")
	for _, told := range []struct {
		cap  impl.Cap
		text string
	}{
		{impl.MakeCap(root, "doc1"), "cap~doc1~~oulee27be0i1slqhu0mfirafe8"},
		{impl.Attenuate(impl.MakeCap(root, "doc1"), atomTerm("used", impl.OpLess, numAtom(3))), "cap~doc1~elpmap107gg362g~49v0kvjv4e7gdv977kbr314oa4"},
		{capByWords(nil, "a.B-_9", atomTerm("used", impl.OpMost, numAtom(-3)), atomTerm("who", impl.OpSame, textAtom("a~\"b")), atomTerm("at", impl.OpLess, timeAtom(7)), atomTerm("from", impl.OpIn, addrAtom(10<<24, 8)), atomTerm("sum", impl.OpSame, decAtom(15000))), "cap~a.B-_9~elpmap107gui0b9j19rmgrp07kui08j1fpe24oh219gn881s4103e2j6e9nmq839dog32c1e60n30bhg5ss0ksrldkg3qf9064n3ac1g6050~gc3sun2r47s0khhdi1hhq49c94"},
	} {
		if got := askCapText(t, told.cap); got != told.text {
			t.Errorf("got %q, want %q", got, told.text)
		}
		if got, ok := askReadCap(t, told.text); !ok || !sameCap(got, told.cap) {
			t.Errorf("%q: got %s, %v", told.text, shown(got), ok)
		}
	}
}

func TestCapsAreReadAsWhatTheyAre(t *testing.T) {
	seen := map[string]bool{}
	for _, c := range goodCaps() {
		text := askCapText(t, c)
		if got, ok := askReadCap(t, text); text == "" || !ok || !sameCap(got, c) {
			t.Errorf("%.300s: read as %.300s, %v", shown(c), shown(got), ok)
		}
		if seen[text] || len(text) > 20000 || strings.Count(text, "~") != 3 || strings.Contains(text, "\n") {
			t.Errorf("%.300s: got %.200q", shown(c), text)
		}
		seen[text] = true
	}
	for _, c := range badCaps() {
		if got := askCapText(t, c); got != "" {
			t.Errorf("%.300s: got %.200q", shown(c), got)
		}
	}
	longest := askCapText(t, capByWords(nil, longId("x"), slices.Repeat([]impl.CavTerm{longestTerm()}, 20)...))
	if want := 4 + 40 + 1 + (20*(30+4+402+1)*8+4)/5 + 1 + 26; len(longest) != want {
		t.Errorf("the longest text has %d bytes, want %d", len(longest), want)
	}
	from := drawn()
	for range 3000 {
		c := impl.Cap{Id: "x" + drawnText(from, "aZ0_.-", 9), Terms: drawnTerms(from, 20), Tag: drawnBytes(from, 16)}
		if got, ok := askReadCap(t, askCapText(t, c)); !ok || !sameCap(got, c) {
			t.Errorf("%.300s: read as %.300s, %v", shown(c), shown(got), ok)
		}
	}
}

func TestReadCapOfWhatIsNone(t *testing.T) {
	for _, text := range noCapTexts() {
		if got, ok := askReadCap(t, text); ok {
			t.Errorf("%.200q: got %.200s", text, shown(got))
		}
	}
	for many := range 25 {
		text := capTextOf("doc1", strings.Repeat("n < 1\n", many), make([]byte, 16))
		if got, ok := askReadCap(t, text); ok != (many <= 20) || ok && len(got.Terms) != many {
			t.Errorf("%d terms: got %v, %.200s", many, ok, shown(got))
		}
	}
	// Terms whose texts hold a tilde are read; a byte 10 ends a term wherever it stands.
	for _, told := range []struct {
		lines string
		want  int
	}{{"a == \"~\"\n", 1}, {"a == \"~~~\"\nb == \"cap~doc1~~\"\n", 2}, {"a == \"\\n\"\n", -1}, {"a == \"x\ny\"\n", -1}, {"a == \"x\"\nb < 1\n", 2}, {"a == \"x\"\n\nb < 1\n", -1}, {"a == \"b < 1\"\n", 1}, {"a == \"b\n\" < 1\n", -1}} {
		got, ok := askReadCap(t, capTextOf("doc1", told.lines, make([]byte, 16)))
		if ok != (told.want >= 0) || len(got.Terms) != max(told.want, 0) {
			t.Errorf("%q: got %v, %s", told.lines, ok, shown(got))
		}
	}
	for _, length := range []int{19999, 20000, 20001, 100000} {
		for _, letter := range []string{"0", "~", "v", "\xff", "cap~"} {
			text := strings.Repeat(letter, length)[:length]
			for _, whole := range []string{text, ("cap~doc1~" + text)[:length], ("cap~doc1~" + text)[:length-27] + "~" + armorByWords(make([]byte, 16)), ("cap~" + text)[:length]} {
				if _, ok := askReadCap(t, whole); ok {
					t.Errorf("%d bytes, %.60q: want none", length, whole)
				}
			}
		}
	}
}

// A text with a byte changed, left out or put in is none, or that of another capability, which the root did not make.
func TestACapWithAByteChangedIsAnother(t *testing.T) {
	root := []byte("root")
	c := capByWords(root, "d1", atomTerm("n", impl.OpLess, numAtom(3)))
	text := impl.CapText(c)
	read := 0
	ask := func(other string) {
		t.Helper()
		got, ok := askReadCap(t, other)
		if !ok {
			return
		}
		read++
		if impl.CapText(got) != other || sameCap(got, c) != (other == text) {
			t.Errorf("%q: read as %s", other, shown(got))
		}
		if other != text && impl.CheckCap(root, got, valueOf("{n:0}")) != impl.No {
			t.Errorf("%q: want it not to be taken", other)
		}
	}
	for at := range text {
		ask(text[:at] + text[at+1:])
		for x := range 256 {
			single := string([]byte{byte(x)})
			ask(text[:at] + single + text[at+1:])
			ask(text[:at] + single + text[at:])
		}
	}
	for x := range 256 {
		ask(text + string([]byte{byte(x)}))
	}
	if read < 800 {
		t.Errorf("only %d of the texts are those of others", read)
	}
}
