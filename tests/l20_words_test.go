package tests

import (
	"encoding/xml"
	"io"
	"regexp"
	"slices"
	"sort"
	"strconv"
	"strings"

	"loop.example/g00036/impl"
)

// What the document says of chapter 20, worked out in other ways than the program does: trees by the sums of their Kids, texts from the last element to the first, a table of states for the first wrong byte, the library's reader for what right texts tell, signatures put into the text and cut out of it, all faults side by side.

var (
	wholeDocText = regexp.MustCompile(`^[ -~]{0,200}$`)
	nextName     = regexp.MustCompile(`^[a-zA-Z0-9_]*`)
	nextMark     = regexp.MustCompile(`^&(?:amp|lt|gt|quot);`)
)

var docMarks = strings.NewReplacer("&", "&amp;", "<", "&lt;", ">", "&gt;", `"`, "&quot;")

func goodElemByWords(e impl.Elem) bool {
	for _, text := range append(slices.Clone(e.Values), e.Text) {
		if !wholeDocText.MatchString(text) {
			return false
		}
	}
	isLeaf := e.Kids == 0
	return changeName.MatchString(e.Name) && areNamesByWords(e.Names) && len(e.Names) < 9 && len(e.Values) == len(e.Names) && isBetween(e.Kids, 0, 20) && (isLeaf || e.Text == "")
}

// endsByWords has for each element the number behind what is in it; nil where they are no one tree.
func endsByWords(d []impl.Elem) []int {
	var ends []int
	for at := range d {
		end := at
		for lacking := 1; lacking > 0; end++ {
			if end == len(d) || d[end].Kids < 0 {
				return nil
			}
			lacking += d[end].Kids - 1
		}
		ends = append(ends, end)
	}
	if len(ends) == 0 || ends[0] != len(d) {
		return nil
	}
	return ends
}

// aroundByWords are the numbers of the elements in which that one is, the nearest one first, and its own ahead of them.
func aroundByWords(d []impl.Elem, at int) []int {
	var around []int
	for i, end := range endsByWords(d) {
		if i <= at && at < end {
			around = append([]int{i}, around...)
		}
	}
	return around
}

func goodDocByWords(d []impl.Elem) bool {
	if !isBetween(len(d), 1, 60) || slices.ContainsFunc(d, func(e impl.Elem) bool { return !goodElemByWords(e) }) || endsByWords(d) == nil {
		return false
	}
	for at := range d {
		if len(aroundByWords(d, at)) > 12 {
			return false
		}
	}
	return true
}

// elemTextsByWords are the texts of all elements of a tree, however long they are.
func elemTextsByWords(d []impl.Elem) []string {
	texts := make([]string, len(d))
	var behind []string
	for at := len(d) - 1; at >= 0; at-- {
		e := d[at]
		own := []string{"<", e.Name}
		for i, name := range e.Names {
			own = append(own, " ", name, `="`, docMarks.Replace(e.Values[i]), `"`)
		}
		own = append(append(own, ">", docMarks.Replace(e.Text)), behind[:e.Kids]...)
		texts[at] = strings.Join(append(own, "</", e.Name, ">"), "")
		behind = append([]string{texts[at]}, behind[e.Kids:]...)
	}
	return texts
}

func partTextByWords(d []impl.Elem, at int) string {
	if !goodDocByWords(d) || at < 0 || at > len(d)-1 || len(elemTextsByWords(d)[at]) > 8000 {
		return ""
	}
	return elemTextsByWords(d)[at]
}

// The states of a text, each told by what came last.
const (
	atStart = iota
	behindOpen
	inElemName
	behindBlank
	inFieldName
	behindSame
	inValue
	behindValue
	behindSlash
	behindOpened
	inText
	behindLess
	behindTextLess
	behindKid
	behindCloser
	behindCloserName
	behindWhole
)

// docSteps tells for each state which sorts of bytes may come and what comes of them: `n` is any byte of a name but a digit, `d` a digit, `p` any byte that is told as it is, `&` a mark; each other stands for itself.
var docSteps = map[int]map[byte]int{
	atStart:          {'<': behindOpen},
	behindOpen:       {'n': inElemName},
	inElemName:       {'n': inElemName, 'd': inElemName, ' ': behindBlank, '>': behindOpened, '/': behindSlash},
	behindBlank:      {'n': inFieldName},
	inFieldName:      {'n': inFieldName, 'd': inFieldName, '=': behindSame},
	behindSame:       {'"': inValue},
	inValue:          {'p': inValue, '&': inValue, '"': behindValue},
	behindValue:      {' ': behindBlank, '>': behindOpened, '/': behindSlash},
	behindSlash:      {'>': behindKid},
	behindOpened:     {'p': inText, '&': inText, '<': behindLess},
	inText:           {'p': inText, '&': inText, '<': behindTextLess},
	behindLess:       {'n': inElemName, '/': behindCloser},
	behindTextLess:   {'/': behindCloser},
	behindKid:        {'<': behindLess},
	behindCloser:     {},
	behindCloserName: {'>': behindKid},
	behindWhole:      {},
}

// sortsOf are the sorts that a byte may be of.
func sortsOf(c byte) []byte {
	sorts := []byte{c}
	switch {
	case c >= 'a' && c <= 'z', c >= 'A' && c <= 'Z', c == '_':
		sorts = []byte{'n'}
	case c >= '0' && c <= '9':
		sorts = []byte{'d'}
	}
	if c >= 32 && c <= 126 && !strings.ContainsRune(`<>"&`, rune(c)) {
		sorts = append(sorts, 'p')
	}
	return sorts
}

// docWay is how far a text was read.
type docWay struct {
	state int
	open  []string
	name  int
}

// takes goes on by one byte, or by a mark or the name behind `</`; it answers how many bytes that are, 0 where none may come.
func (w *docWay) takes(text string, at int) int {
	rest := text[at:]
	if w.state == behindCloser {
		own := w.open[len(w.open)-1]
		if nextName.FindString(rest) != own {
			return 0
		}
		w.state = behindCloserName
		return len(own)
	}
	length := 1
	if rest[0] == '&' {
		length = len(nextMark.FindString(rest))
	}
	for _, sort := range sortsOf(rest[0]) {
		next, ok := docSteps[w.state][sort]
		if ok && length > 0 {
			w.step(next, text, at)
			return length
		}
	}
	return 0
}

func (w *docWay) step(next int, text string, at int) {
	switch {
	case next == inElemName && w.state != inElemName:
		w.name = at
	case w.state == inElemName && next != inElemName:
		w.open = append(w.open, text[w.name:at])
	}
	if next == behindKid {
		w.open = w.open[:len(w.open)-1]
		if len(w.open) == 0 {
			next = behindWhole
		}
	}
	w.state = next
}

// wrongByteByWords is -1 of a text that is right.
func wrongByteByWords(text string) int {
	var w docWay
	for at := 0; at < len(text); {
		length := w.takes(text, at)
		if length == 0 {
			return at
		}
		at += length
	}
	if w.state != behindWhole {
		return len(text)
	}
	return -1
}

// elemsByWords are those of a text that is right, their Names in order; of each limit it may go beyond.
func elemsByWords(text string) []impl.Elem {
	var d []impl.Elem
	var open []int
	reader := xml.NewDecoder(strings.NewReader(text))
	for {
		token, err := reader.RawToken()
		if err == io.EOF {
			return d
		}
		if err != nil {
			panic("no right text: " + text + ": " + err.Error())
		}
		switch x := token.(type) {
		case xml.StartElement:
			sort.SliceStable(x.Attr, func(i, j int) bool { return x.Attr[i].Name.Local < x.Attr[j].Name.Local })
			e := impl.Elem{Name: x.Name.Local}
			for _, a := range x.Attr {
				e.Names, e.Values = append(e.Names, a.Name.Local), append(e.Values, a.Value)
			}
			if len(open) > 0 {
				d[open[len(open)-1]].Kids++
			}
			open = append(open, len(d))
			d = append(d, e)
		case xml.CharData:
			d[open[len(open)-1]].Text = string(x)
		case xml.EndElement:
			open = open[:len(open)-1]
		}
	}
}

func readDocByWords(text string) impl.DocRes {
	if len(text) > 8000 {
		return impl.DocRes{Err: 1}
	}
	if at := wrongByteByWords(text); at >= 0 {
		return impl.DocRes{Err: 2, At: at}
	}
	d := elemsByWords(text)
	if !goodDocByWords(d) {
		return impl.DocRes{Err: 3}
	}
	return impl.DocRes{Nodes: d}
}

// sameDoc takes the nil list for the empty one.
func sameDoc(a []impl.Elem, b []impl.Elem) bool {
	return slices.EqualFunc(a, b, func(x, y impl.Elem) bool {
		return x.Name == y.Name && x.Text == y.Text && x.Kids == y.Kids && slices.Equal(x.Names, y.Names) && slices.Equal(x.Values, y.Values)
	})
}

// fieldByWords answers false where the element has no such Name.
func fieldByWords(e impl.Elem, name string) (string, bool) {
	for i, own := range e.Names {
		if own == name && i < len(e.Values) {
			return e.Values[i], true
		}
	}
	return "", false
}

func numbersOfElems(d []impl.Elem, holds func(e impl.Elem) bool) []int {
	var out []int
	for at, e := range d {
		if holds(e) {
			out = append(out, at)
		}
	}
	return out
}

func elemsNamedByWords(d []impl.Elem, name string) []int {
	return numbersOfElems(d, func(e impl.Elem) bool { return e.Name == name })
}

func withIdByWords(d []impl.Elem, id string) []int {
	return numbersOfElems(d, func(e impl.Elem) bool { own, ok := fieldByWords(e, "id"); return ok && own == id })
}

func isKidByWords(d []impl.Elem, parent int, kid int) bool {
	around := aroundByWords(d, kid)
	return len(around) > 1 && around[1] == parent
}

// signatureText is the one that the secret signs of a text, whatever stands in it.
func signatureText(secret int, kid string, id string, part string) string {
	sig := sigTextByWords(impl.Sign(secret, []byte(part)))
	return `<Signature kid="` + docMarks.Replace(kid) + `" ref="` + docMarks.Replace(id) + `" sig="` + sig + `"></Signature>`
}

// signedTextAnyhow puts the signature of an element at its end, whether it may be there or not.
func signedTextAnyhow(secret int, kid string, d []impl.Elem, at int) string {
	texts := elemTextsByWords(d)
	id, _ := fieldByWords(d[at], "id")
	closer := "</" + d[at].Name + ">"
	part := strings.TrimSuffix(texts[at], closer) + signatureText(secret, kid, id, texts[at]) + closer
	return strings.Replace(texts[0], texts[at], part, 1)
}

// signedAtAnyhow is the document of that text; the element must not come twice.
func signedAtAnyhow(secret int, kid string, d []impl.Elem, at int) []impl.Elem {
	return elemsByWords(signedTextAnyhow(secret, kid, d, at))
}

func signDocByWords(secret int, kid string, d []impl.Elem, id string) []impl.Elem {
	if !goodDocByWords(d) || !isBetween(secret, 1, 1073741788) || !idForm.MatchString(kid) {
		return nil
	}
	all := withIdByWords(d, id)
	if len(all) != 1 || d[all[0]].Text != "" || len(elemTextsByWords(d)[all[0]]) > 8000 {
		return nil
	}
	for _, at := range elemsNamedByWords(d, "Signature") {
		if isKidByWords(d, all[0], at) {
			return nil
		}
	}
	signed := signedAtAnyhow(secret, kid, d, all[0])
	if !goodDocByWords(signed) {
		return nil
	}
	return signed
}

// signatureFaults are those of a document that has one signature, and not as its first element.
func signatureFaults(ring []impl.Key, d []impl.Elem, at int, time int) (int, []int) {
	var faults []int
	e, parent := d[at], aroundByWords(d, at)[1]
	kid, _ := fieldByWords(e, "kid")
	ref, _ := fieldByWords(e, "ref")
	told, _ := fieldByWords(e, "sig")
	sig, ok := unarmorByWords(told)
	ok = ok && len(sig) == 8
	if strings.Join(e.Names, " ") != "kid ref sig" || e.Text != "" || e.Kids != 0 || !ok {
		faults = append(faults, 3)
	}
	holders := withIdByWords(d, ref)
	if !slices.Contains(holders, parent) {
		faults = append(faults, 4)
	}
	if slices.ContainsFunc(holders, func(holder int) bool { return holder != parent }) {
		faults = append(faults, 5)
	}
	texts := elemTextsByWords(d)
	part := strings.Replace(texts[parent], texts[at], "", 1)
	inTime, verified := 0, 0
	for _, k := range ring {
		if k.Id != kid || !ok {
			continue
		}
		if k.From <= time && time <= k.Until {
			inTime++
		}
		if len(part) <= 8000 && impl.Verify(k.Public, []byte(part), impl.Sig{R: numberByWords([]byte(sig[:4])), Z: numberByWords([]byte(sig[4:]))}) {
			verified++
		}
	}
	if inTime == 0 {
		faults = append(faults, 6)
	}
	if verified == 0 {
		faults = append(faults, 7)
	}
	return parent, faults
}

// docFaults are all the faults that a document has; without one signature there is nothing to ask for those behind 2.
func docFaults(ring []impl.Key, d []impl.Elem, time int) (int, []int) {
	var faults []int
	if !goodRingByWords(ring) || !goodDocByWords(d) || !isTimeByWords(time) {
		faults = append(faults, 1)
	}
	if !goodDocByWords(d) {
		return -1, faults
	}
	signatures := elemsNamedByWords(d, "Signature")
	if len(signatures) != 1 || signatures[0] == 0 {
		return -1, append(faults, 2)
	}
	at, more := signatureFaults(ring, d, signatures[0], time)
	return at, append(faults, more...)
}

func checkDocByWords(ring []impl.Key, d []impl.Elem, time int) (int, int) {
	at, faults := docFaults(ring, d, time)
	if len(faults) > 0 {
		return -1, slices.Min(faults)
	}
	return at, 0
}

// numberField answers false of what is no whole number that an int holds.
func numberField(e impl.Elem, name string) (int, bool) {
	text, _ := fieldByWords(e, name)
	num, err := strconv.Atoi(text)
	return num, err == nil && wholeNumber.MatchString(text)
}

// assertionFaults are those of the element that is signed, and its subject.
func assertionFaults(d []impl.Elem, at int, aud string, time int, seen []string) (string, []int) {
	var faults []int
	e := d[at]
	if e.Name != "Assertion" || d[0].Name != "Response" || !isKidByWords(d, 0, at) || len(elemsNamedByWords(d, "Assertion")) > 1 {
		faults = append(faults, 8)
	}
	from, isFrom := numberField(e, "from")
	until, isUntil := numberField(e, "until")
	if !isFrom || !isUntil || !isBetween(time, from, until) {
		faults = append(faults, 9)
	}
	if own, ok := fieldByWords(e, "aud"); !ok || own != aud {
		faults = append(faults, 10)
	}
	if id, ok := fieldByWords(e, "id"); ok && slices.Contains(seen, id) {
		faults = append(faults, 11)
	}
	var subjects []string
	for _, kid := range elemsNamedByWords(d, "Subject") {
		if isKidByWords(d, at, kid) {
			subjects = append(subjects, d[kid].Text)
		}
	}
	if len(subjects) != 1 || subjects[0] == "" {
		faults = append(faults, 12)
	}
	return strings.Join(subjects, " "), faults
}

func useFaults(ring []impl.Key, d []impl.Elem, aud string, time int, seen []string) (string, []int) {
	at, faults := docFaults(ring, d, time)
	if len(seen) > 1000 {
		faults = append(faults, 1)
	}
	if at < 0 {
		return "", faults
	}
	subject, more := assertionFaults(d, at, aud, time, seen)
	return subject, append(faults, more...)
}

func useByWords(ring []impl.Key, d []impl.Elem, aud string, time int, seen []string) (string, int) {
	subject, faults := useFaults(ring, d, aud, time, seen)
	if len(faults) > 0 {
		return "", slices.Min(faults)
	}
	return subject, 0
}
