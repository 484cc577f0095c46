package tests

import (
	"encoding/base32"
	"maps"
	"math/big"
	"regexp"
	"slices"
	"strconv"
	"strings"

	"loop.example/g00036/impl"
)

// What the document says of chapter 17, worked out in other ways than the program does: forms of whole texts, the library's letters of five bits, public numbers as squares, rings by their ids, tags from the last term back to the root, all faults of a token put side by side.

var (
	wholeToken = regexp.MustCompile(`^(v1~([a-zA-Z0-9_.-]{1,40})~([0-9a-v]+))~([0-9a-v]{13})$`)
	wholeCap   = regexp.MustCompile(`^cap~([a-zA-Z0-9_.-]{1,40})~([0-9a-v]*)~([0-9a-v]{26})$`)
	wholeTerm  = regexp.MustCompile(`^([a-zA-Z_][a-zA-Z0-9_]{0,29}) (==|<|<=|in) (.+)$`)
)

// kindsOfCapOps has at the place of each Op the kinds of atoms that it takes in a capability.
var kindsOfCapOps = [...]string{"", "2357", "2357", "2357", "6"}

var capSigns = []string{"", "==", "<", "<=", "in"}

// unarmorByWords answers false where the bits behind the last byte are not 0, too: then the armour is another.
func unarmorByWords(text string) (string, bool) {
	data, err := base32.NewEncoding(armorAlphabet).WithPadding(base32.NoPadding).DecodeString(text)
	if err != nil || strings.ContainsAny(text, "\r\n") || armorByWords(data) != text {
		return "", false
	}
	return string(data), true
}

// isPublicByWords: modulo a prime, what has the half power 1 is a square.
func isPublicByWords(num int) bool {
	return isBetween(num, 2, 2147483578) && big.Jacobi(bigOf(num), bigOf(2147483579)) == 1
}

func isTimeByWords(time int) bool {
	return isBetween(time, 0, 100000000000)
}

func goodKeyByWords(k impl.Key) bool {
	return idForm.MatchString(k.Id) && isPublicByWords(k.Public) && isTimeByWords(k.From) && isTimeByWords(k.Until) && k.Until-k.From >= 0
}

func goodRingByWords(ring []impl.Key) bool {
	var ids []string
	for _, k := range ring {
		if !goodKeyByWords(k) {
			return false
		}
		ids = append(ids, k.Id)
	}
	return len(ring) < 11 && risesByWords(ids)
}

func sigTextByWords(sig impl.Sig) string {
	return armorByWords(append(fourBytes(sig.R), fourBytes(sig.Z)...))
}

// signedAnyhow signs what may be no good kid and no claims at all.
func signedAnyhow(secret int, kid string, claims string) string {
	signed := "v1~" + kid + "~" + armorByWords([]byte(claims))
	return signed + "~" + sigTextByWords(impl.Sign(secret, []byte(signed)))
}

func signTokenByWords(secret int, kid string, claims impl.Value) string {
	text := impl.ValueText(claims)
	if !isBetween(secret, 1, 1073741788) || !idForm.MatchString(kid) || !isRecord(claims) || len(text) > 4000 {
		return ""
	}
	return signedAnyhow(secret, kid, text)
}

// claimText is a claim as it is told, and the empty text where it is not there.
func claimText(claims impl.Value, name string) string {
	at := slices.Index(claims.Names, name)
	if at < 0 {
		return ""
	}
	return impl.AtomText(claims.Items[at])
}

// timeClaim answers false of what is no time.
func timeClaim(claims impl.Value, name string) (int, bool) {
	digits, ok := strings.CutPrefix(claimText(claims, name), "@")
	num, err := strconv.Atoi(digits)
	return num, ok && err == nil
}

// faultsOfClaims are those that only the claims are asked for.
func faultsOfClaims(claims impl.Value, aud string, time int) []int {
	var faults []int
	from, isFrom := timeClaim(claims, "nbf")
	until, isUntil := timeClaim(claims, "exp")
	if slices.Contains(claims.Names, "nbf") && (!isFrom || time < from) || !isUntil || time > until {
		faults = append(faults, 6)
	}
	if at := slices.Index(claims.Names, "aud"); at < 0 || claims.Items[at].Kind != impl.TextAtom || claims.Items[at].Text != aud {
		faults = append(faults, 7)
	}
	return faults
}

// faultsOfKey are those that the keys with the kid are asked for: of a good ring that is one, or none.
func faultsOfKey(ring []impl.Key, kid string, signed string, sig impl.Sig, time int) []int {
	var faults []int
	there, inTime, verified := 0, 0, 0
	for _, k := range ring {
		if k.Id != kid {
			continue
		}
		there++
		if k.From <= time && time <= k.Until {
			inTime++
		}
		if impl.Verify(k.Public, []byte(signed), sig) {
			verified++
		}
	}
	for i, count := range []int{there, inTime, verified} {
		if count == 0 {
			faults = append(faults, 3+i)
		}
	}
	return faults
}

// openFaults are all the faults that a token has; a text that is none has nothing to ask for the faults behind 2.
func openFaults(ring []impl.Key, text string, aud string, time int) (impl.Value, []int) {
	var faults []int
	if !goodRingByWords(ring) || !isTimeByWords(time) || len(text) > 10000 {
		faults = append(faults, 1)
	}
	parts := wholeToken.FindStringSubmatch(text)
	if parts == nil {
		return impl.Value{}, append(faults, 2)
	}
	told, ok := unarmorByWords(parts[3])
	sig, also := unarmorByWords(parts[4])
	claims, read := impl.ReadValue(told)
	if !ok || !also || !read || len(sig) != 8 || len(told) > 4000 || claims.Kind != impl.ValueRecord {
		return impl.Value{}, append(faults, 2)
	}
	numbers := impl.Sig{R: numberByWords([]byte(sig[:4])), Z: numberByWords([]byte(sig[4:]))}
	faults = append(faults, faultsOfKey(ring, parts[2], parts[1], numbers, time)...)
	return claims, append(faults, faultsOfClaims(claims, aud, time)...)
}

func openByWords(ring []impl.Key, text string, aud string, time int) (impl.Value, int) {
	claims, faults := openFaults(ring, text, aud, time)
	if len(faults) > 0 {
		return impl.Value{}, slices.Min(faults)
	}
	return claims, 0
}

func rotateByWords(ring []impl.Key, next impl.Key, time int, grace int) []impl.Key {
	if !goodRingByWords(ring) || !isTimeByWords(time) || !isTimeByWords(grace) {
		return nil
	}
	byId := map[string]impl.Key{}
	for _, k := range ring {
		if k.Until > time+grace {
			k.Until = time + grace
		}
		// A key that began behind the end has an Until below its From now.
		if k.Until >= time && k.Until >= k.From {
			byId[k.Id] = k
		}
	}
	if _, ok := byId[next.Id]; ok {
		return nil
	}
	byId[next.Id] = next
	var rotated []impl.Key
	for _, id := range slices.Sorted(maps.Keys(byId)) {
		rotated = append(rotated, byId[id])
	}
	if !goodRingByWords(rotated) {
		return nil
	}
	return rotated
}

func isTermByWords(t impl.CavTerm) bool {
	return changeName.MatchString(t.Left) && isBetween(t.Op, 1, 4) && t.Param == "" && impl.GoodAtom(t.Atom) && strings.Contains(kindsOfCapOps[t.Op], strconv.Itoa(t.Atom.Kind))
}

func termTextByWords(t impl.CavTerm) string {
	if !isTermByWords(t) {
		return ""
	}
	return strings.Join([]string{t.Left, capSigns[t.Op], impl.AtomText(t.Atom)}, " ")
}

func areTermsByWords(terms []impl.CavTerm) bool {
	for _, t := range terms {
		if termTextByWords(t) == "" {
			return false
		}
	}
	return len(terms) < 21
}

func goodCapByWords(c impl.Cap) bool {
	return idForm.MatchString(c.Id) && areTermsByWords(c.Terms) && len(c.Tag) == 16
}

// tagByWords asks for the tag without the last term first.
func tagByWords(root []byte, id string, terms []impl.CavTerm) []byte {
	if len(terms) == 0 {
		return impl.Mac(root, []byte(id))
	}
	last := len(terms) - 1
	return impl.Mac(tagByWords(root, id, terms[:last]), []byte(termTextByWords(terms[last])))
}

func capByWords(root []byte, id string, terms ...impl.CavTerm) impl.Cap {
	if len(root) > 64 || !idForm.MatchString(id) || !areTermsByWords(terms) {
		return impl.Cap{}
	}
	return impl.Cap{Id: id, Terms: terms, Tag: tagByWords(root, id, terms)}
}

func attenuateByWords(c impl.Cap, t impl.CavTerm) impl.Cap {
	more := impl.Cap{Id: c.Id, Terms: append(slices.Clone(c.Terms), t)}
	more.Tag = impl.Mac(c.Tag, []byte(termTextByWords(t)))
	if !goodCapByWords(c) || !goodCapByWords(more) {
		return impl.Cap{}
	}
	return more
}

func capTermByWords(t impl.CavTerm, given impl.Value) int {
	for i, a := range given.Items {
		if given.Names[i] != t.Left || a.Kind != t.Atom.Kind {
			continue
		}
		holds := []bool{false, a == t.Atom, lessByWords(a, t.Atom), a == t.Atom || lessByWords(a, t.Atom), addrInByWords(a, t.Atom)}
		if holds[t.Op] {
			return impl.Yes
		}
		return impl.No
	}
	return impl.Maybe
}

func checkCapByWords(root []byte, c impl.Cap, given impl.Value) int {
	if len(root) > 64 || !goodCapByWords(c) || !isRecord(given) {
		return -1
	}
	counts := map[int]int{}
	if string(tagByWords(root, c.Id, c.Terms)) != string(c.Tag) {
		counts[impl.No]++
	}
	for _, t := range c.Terms {
		counts[capTermByWords(t, given)]++
	}
	switch {
	case counts[impl.No] > 0:
		return impl.No
	case counts[impl.Maybe] > 0:
		return impl.Maybe
	}
	return impl.Yes
}

func capTextByWords(c impl.Cap) string {
	if !goodCapByWords(c) {
		return ""
	}
	var lines strings.Builder
	for _, t := range c.Terms {
		lines.WriteString(termTextByWords(t))
		lines.WriteByte(10)
	}
	return "cap~" + c.Id + "~" + armorByWords([]byte(lines.String())) + "~" + armorByWords(c.Tag)
}

func readTermByWords(line string) (impl.CavTerm, bool) {
	parts := wholeTerm.FindStringSubmatch(line)
	if parts == nil {
		return impl.CavTerm{}, false
	}
	a, ok := impl.ReadAtom(parts[3])
	t := impl.CavTerm{Left: parts[1], Op: slices.Index(capSigns, parts[2]), Atom: a}
	return t, ok && isTermByWords(t)
}

func readCapByWords(text string) (impl.Cap, bool) {
	parts := wholeCap.FindStringSubmatch(text)
	if parts == nil || len(text) > 20000 {
		return impl.Cap{}, false
	}
	lines, ok := unarmorByWords(parts[2])
	tag, also := unarmorByWords(parts[3])
	if !ok || !also || lines != "" && !strings.HasSuffix(lines, "\n") {
		return impl.Cap{}, false
	}
	c := impl.Cap{Id: parts[1], Tag: []byte(tag)}
	for lines != "" {
		at := strings.IndexByte(lines, 10)
		t, read := readTermByWords(lines[:at])
		if !read {
			return impl.Cap{}, false
		}
		c.Terms, lines = append(c.Terms, t), lines[at+1:]
	}
	if len(c.Terms) > 20 {
		return impl.Cap{}, false
	}
	return c, true
}

func sameCap(a impl.Cap, b impl.Cap) bool {
	return a.Id == b.Id && slices.Equal(a.Terms, b.Terms) && string(a.Tag) == string(b.Tag)
}

// rankOf puts what CheckCap tells in order: numbers count for nothing there.
func rankOf(truth int) int {
	return slices.Index([]int{-1, impl.No, impl.Maybe, impl.Yes}, truth)
}
