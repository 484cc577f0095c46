package impl

import (
	"cmp"
	"slices"
	"strconv"
	"strings"
)

const MaxText = 200
const MaxItems = 50
const MaxName = 30
const MaxTime = 100000000000

const (
	BoolAtom = iota + 1
	NumAtom
	TextAtom
	RefAtom
	DecAtom
	AddrAtom
	TimeAtom
)

const (
	ValueAtom = iota + 1
	ValueSet
	ValueRecord
)

// maxToldItems is how many atoms SetOf takes, those that come more than once counted each time.
const maxToldItems = 1000

// blockBits parts a block's first address from its bits within Num.
const blockBits = 64

type Atom struct {
	Kind int
	Num  int
	Text string
	Type string
}

type Value struct {
	Kind  int
	Atom  Atom
	Items []Atom
	Names []string
}

// block is what the Num of an AddrAtom stands for.
type block struct {
	first int
	bits  int
}

// patternPart is one byte that a pattern asks for, or a star.
type patternPart struct {
	star bool
	own  byte
}

func isLetter(c byte) bool {
	return 'a' <= c && c <= 'z' || 'A' <= c && c <= 'Z'
}

func isDigit(c byte) bool {
	return '0' <= c && c <= '9'
}

func isPrinted(c byte) bool {
	return ' ' <= c && c <= '~'
}

func startsName(c byte) bool {
	return isLetter(c) || c == '_'
}

func GoodName(s string) bool {
	if s == "" || len(s) > MaxName || !startsName(s[0]) {
		return false
	}
	for _, c := range []byte(s) {
		if !startsName(c) && !isDigit(c) {
			return false
		}
	}
	return true
}

func goodText(s string) bool {
	if len(s) > MaxText {
		return false
	}
	for _, c := range []byte(s) {
		if !isPrinted(c) {
			return false
		}
	}
	return true
}

func blockOf(num int) block {
	return block{first: num / blockBits, bits: num % blockBits}
}

// size is how many addresses the block has.
func (b block) size() int {
	return 1 << (32 - b.bits)
}

func goodBlock(num int) bool {
	if num < 0 {
		return false
	}
	b := blockOf(num)
	return b.bits <= 32 && b.first < 1<<32 && b.first%b.size() == 0
}

func goodNum(kind int, num int) bool {
	switch kind {
	case BoolAtom:
		return num == 0 || num == 1
	case AddrAtom:
		return goodBlock(num)
	case TimeAtom:
		return -MaxTime <= num && num <= MaxTime
	}
	return true
}

// GoodAtom holds an atom against one that has just the fields of its kind, so that no other field may be told.
func GoodAtom(a Atom) bool {
	switch a.Kind {
	case BoolAtom, NumAtom, DecAtom, AddrAtom, TimeAtom:
		return a == Atom{Kind: a.Kind, Num: a.Num} && goodNum(a.Kind, a.Num)
	case TextAtom:
		return a == Atom{Kind: a.Kind, Text: a.Text} && goodText(a.Text)
	case RefAtom:
		return a == Atom{Kind: a.Kind, Text: a.Text, Type: a.Type} &&
			GoodName(a.Type) && a.Text != "" && goodText(a.Text)
	}
	return false
}

func CompareAtoms(a Atom, b Atom) int {
	if !GoodAtom(a) || !GoodAtom(b) {
		return -2
	}
	if a == b {
		return 0
	}
	return cmp.Or(
		cmp.Compare(a.Kind, b.Kind),
		cmp.Compare(a.Num, b.Num),
		cmp.Compare(a.Type, b.Type),
		cmp.Compare(a.Text, b.Text),
	)
}

func quotedText(s string) string {
	out := []byte{'"'}
	for _, c := range []byte(s) {
		if c == '"' || c == '\\' {
			out = append(out, '\\')
		}
		out = append(out, c)
	}
	return string(append(out, '"'))
}

// decimalText puts the point into the digits of the whole number: the least int has no positive of its own.
func decimalText(num int) string {
	sign, digits := "", strconv.Itoa(num)
	if num < 0 {
		sign, digits = "-", digits[1:]
	}
	digits = strings.Repeat("0", max(0, 5-len(digits))) + digits
	point := len(digits) - 4
	return sign + digits[:point] + "." + digits[point:]
}

func blockText(b block) string {
	var parts []string
	for shift := 24; shift >= 0; shift -= 8 {
		parts = append(parts, strconv.Itoa(b.first>>shift&255))
	}
	return strings.Join(parts, ".") + "/" + strconv.Itoa(b.bits)
}

func AtomText(a Atom) string {
	if !GoodAtom(a) {
		return ""
	}
	switch a.Kind {
	case BoolAtom:
		return strconv.FormatBool(a.Num == 1)
	case TextAtom:
		return quotedText(a.Text)
	case RefAtom:
		return a.Type + "::" + quotedText(a.Text)
	case DecAtom:
		return decimalText(a.Num)
	case AddrAtom:
		return blockText(blockOf(a.Num))
	case TimeAtom:
		return "@" + strconv.Itoa(a.Num)
	}
	return strconv.Itoa(a.Num)
}

// guessNum may answer anything of a text that is no whole number: ReadAtom tells its guess again and finds out.
func guessNum(text string) int {
	num, _ := strconv.Atoi(text)
	return num
}

// guessText takes the first and the last byte for the quotes, whatever they are: ReadAtom finds out.
func guessText(text string) string {
	var out []byte
	for i := 1; i < len(text)-1; i++ {
		if text[i] == '\\' {
			i++
		}
		out = append(out, text[i])
	}
	return string(out)
}

func guessBlock(text string) int {
	address, bits, _ := strings.Cut(text, "/")
	first := 0
	for _, part := range strings.Split(address, ".") {
		first = first*256 + guessNum(part)
	}
	return first*blockBits + guessNum(bits)
}

func guessRef(text string) Atom {
	typ, quoted, _ := strings.Cut(text, "::")
	return Atom{Kind: RefAtom, Type: typ, Text: guessText(quoted)}
}

// guessAtom answers the one atom whose text it may be.
func guessAtom(text string) Atom {
	switch {
	case text == "":
		return Atom{}
	case text == "true":
		return Atom{Kind: BoolAtom, Num: 1}
	case text == "false":
		return Atom{Kind: BoolAtom}
	case text[0] == '"':
		return Atom{Kind: TextAtom, Text: guessText(text)}
	case text[0] == '@':
		return Atom{Kind: TimeAtom, Num: guessNum(text[1:])}
	case startsName(text[0]):
		return guessRef(text)
	case strings.Contains(text, "/"):
		return Atom{Kind: AddrAtom, Num: guessBlock(text)}
	case strings.Contains(text, "."):
		return Atom{Kind: DecAtom, Num: guessNum(strings.Replace(text, ".", "", 1))}
	}
	return Atom{Kind: NumAtom, Num: guessNum(text)}
}

// ReadAtom takes its guess only if that is told by the same bytes, so no text is read that AtomText would not tell.
func ReadAtom(text string) (Atom, bool) {
	a := guessAtom(text)
	if !GoodAtom(a) || AtomText(a) != text {
		return Atom{}, false
	}
	return a, true
}

func rising[T any](list []T, order func(a, b T) int) bool {
	for i := 1; i < len(list); i++ {
		if order(list[i-1], list[i]) >= 0 {
			return false
		}
	}
	return true
}

func goodSet(items []Atom) bool {
	return goodItems(items) && rising(items, CompareAtoms)
}

func goodRecord(names []string, items []Atom) bool {
	if len(names) != len(items) || !goodItems(items) {
		return false
	}
	for _, name := range names {
		if !GoodName(name) {
			return false
		}
	}
	return rising(names, strings.Compare)
}

func goodItems(items []Atom) bool {
	return len(items) <= MaxItems && allGood(items)
}

func allGood(items []Atom) bool {
	for _, a := range items {
		if !GoodAtom(a) {
			return false
		}
	}
	return true
}

func GoodValue(v Value) bool {
	switch v.Kind {
	case ValueAtom:
		return GoodAtom(v.Atom) && len(v.Items) == 0 && len(v.Names) == 0
	case ValueSet:
		return v.Atom == Atom{} && goodSet(v.Items) && len(v.Names) == 0
	case ValueRecord:
		return v.Atom == Atom{} && goodRecord(v.Names, v.Items)
	}
	return false
}

func ValueText(v Value) string {
	if !GoodValue(v) {
		return ""
	}
	if v.Kind == ValueAtom {
		return AtomText(v.Atom)
	}
	var texts []string
	for _, a := range v.Items {
		texts = append(texts, AtomText(a))
	}
	if v.Kind == ValueSet {
		return "[" + strings.Join(texts, ",") + "]"
	}
	for i, name := range v.Names {
		texts[i] = name + ":" + texts[i]
	}
	return "{" + strings.Join(texts, ",") + "}"
}

// itemLength is how far the first item goes: a comma within quotes does not end it.
func itemLength(text string) int {
	quoted := false
	for i := 0; i < len(text); i++ {
		switch {
		case quoted && text[i] == '\\':
			i++
		case text[i] == '"':
			quoted = !quoted
		case !quoted && text[i] == ',':
			return i
		}
	}
	return len(text)
}

// guessItems parts what stands between the first and the last byte; one item more than may be is enough to know it is no value.
func guessItems(text string) []string {
	var items []string
	rest := text[1:max(1, len(text)-1)]
	for rest != "" && len(items) <= MaxItems {
		length := itemLength(rest)
		items = append(items, rest[:length])
		rest = rest[min(length+1, len(rest)):]
	}
	return items
}

func guessSet(text string) Value {
	v := Value{Kind: ValueSet}
	for _, item := range guessItems(text) {
		a, _ := ReadAtom(item)
		v.Items = append(v.Items, a)
	}
	return v
}

func guessRecord(text string) Value {
	v := Value{Kind: ValueRecord}
	for _, item := range guessItems(text) {
		name, atom, _ := strings.Cut(item, ":")
		a, _ := ReadAtom(atom)
		v.Names = append(v.Names, name)
		v.Items = append(v.Items, a)
	}
	return v
}

func guessValue(text string) Value {
	switch {
	case strings.HasPrefix(text, "["):
		return guessSet(text)
	case strings.HasPrefix(text, "{"):
		return guessRecord(text)
	}
	a, _ := ReadAtom(text)
	return Value{Kind: ValueAtom, Atom: a}
}

// ReadValue takes its guess only if that is told by the same bytes, as ReadAtom does.
func ReadValue(text string) (Value, bool) {
	v := guessValue(text)
	if !GoodValue(v) || ValueText(v) != text {
		return Value{}, false
	}
	return v, true
}

func SetOf(items []Atom) Value {
	if len(items) > maxToldItems || !allGood(items) {
		return Value{}
	}
	sorted := slices.Clone(items)
	slices.SortFunc(sorted, CompareAtoms)
	once := slices.Compact(sorted)
	if len(once) > MaxItems {
		return Value{}
	}
	return Value{Kind: ValueSet, Items: once}
}

func isBlock(a Atom) bool {
	return a.Kind == AddrAtom && GoodAtom(a)
}

func AddrIn(a Atom, b Atom) bool {
	if !isBlock(a) || !isBlock(b) {
		return false
	}
	in, out := blockOf(a.Num), blockOf(b.Num)
	return out.first <= in.first && in.first+in.size() <= out.first+out.size()
}

// patternParts answers false where a backslash does not stand ahead of a star or another backslash.
func patternParts(pattern string) ([]patternPart, bool) {
	var parts []patternPart
	for i := 0; i < len(pattern); i++ {
		switch {
		case pattern[i] == '*':
			parts = append(parts, patternPart{star: true})
			continue
		case pattern[i] == '\\':
			i++
			if i == len(pattern) || pattern[i] != '*' && pattern[i] != '\\' {
				return nil, false
			}
		}
		parts = append(parts, patternPart{own: pattern[i]})
	}
	return parts, true
}

// meetsParts goes back to the last star alone: what the stars ahead of it took can stay as it is.
func meetsParts(text string, parts []patternPart) bool {
	at, part := 0, 0
	star, taken := -1, 0
	for at < len(text) {
		switch {
		case part < len(parts) && parts[part].star:
			star, taken = part, at
			part++
		case part < len(parts) && parts[part].own == text[at]:
			at++
			part++
		case star >= 0:
			taken++
			at, part = taken, star+1
		default:
			return false
		}
	}
	for part < len(parts) && parts[part].star {
		part++
	}
	return part == len(parts)
}

func Like(text string, pattern string) bool {
	if len(text) > MaxText || len(pattern) > MaxText {
		return false
	}
	parts, ok := patternParts(pattern)
	return ok && meetsParts(text, parts)
}
