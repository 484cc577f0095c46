package tests

import (
	"slices"
	"strconv"
	"strings"

	"loop.example/g00036/impl"
)

// What the document says of chapter 8, worked out in other ways than the program does: from the asked name down instead of level by level, by so many steps at most, and in two values, once for at least Maybe and once for at least Yes.

// wordCheck has the names of objects as texts; told, where it is there, stands for what is worked out of other names.
type wordCheck struct {
	schema  impl.RelSchema
	list    []impl.Tuple
	subject string
	given   impl.Value
	told    map[string]int
	found   map[string]bool
	most    int
}

// ranks are what No, Maybe and Yes count, each at its own number.
var ranks = []int{impl.No: 0, impl.Maybe: 1, impl.Yes: 2}

// valuesByRank are No, Maybe and Yes, each at what it counts.
var valuesByRank = []int{impl.No, impl.Maybe, impl.Yes}

func objectText(typ string, id string) string {
	return typ + ":" + id
}

// subjectTextOf is what a tuple's text has behind its sign, without a caveat.
func subjectTextOf(typ string, id string, rel string) string {
	return strings.TrimSuffix(objectText(typ, id)+"#"+rel, "#")
}

func isSomeOf(s impl.RelSchema, typ string, name string) bool {
	return slices.Contains(namesOfType(s, typ), name)
}

func isTypeOf(s impl.RelSchema, typ string) bool {
	return slices.ContainsFunc(s.Types, func(t impl.RelType) bool { return t.Name == typ })
}

// fitsAskByWords takes the schema as a good one.
func fitsAskByWords(s impl.RelSchema, a impl.Ask) bool {
	return isSomeOf(s, a.Type, a.Name) && idForm.MatchString(a.Id) &&
		isTypeOf(s, a.SubType) && idForm.MatchString(a.SubId) &&
		(a.SubRel == "" || isSomeOf(s, a.SubType, a.SubRel))
}

func goodAskByWords(s impl.RelSchema, a impl.Ask) bool {
	return fitsAskByWords(s, a) && goodRelByWords(s)
}

func isAskable(s impl.RelSchema, list []impl.Tuple, a impl.Ask, given impl.Value) bool {
	return isRecord(given) && fitsAskByWords(s, a) && goodTuplesByWords(s, list)
}

// objectsByWords are the objects that have values, in order.
func objectsByWords(list []impl.Tuple, a impl.Ask) []string {
	all := []string{a.Type + "\x01" + a.Id}
	for _, t := range list {
		all = append(all, t.Type+"\x01"+t.Id)
		if t.SubId != "*" {
			all = append(all, t.SubType+"\x01"+t.SubId)
		}
	}
	slices.Sort(all)
	all = slices.Compact(all)
	for i, text := range all {
		all[i] = strings.Replace(text, "\x01", ":", 1)
	}
	return all
}

func wordCheckOf(s impl.RelSchema, list []impl.Tuple, a impl.Ask, given impl.Value) *wordCheck {
	w := &wordCheck{schema: s, list: list, subject: subjectTextOf(a.SubType, a.SubId, a.SubRel), given: given, found: map[string]bool{}, most: 1}
	for _, object := range objectsByWords(list, a) {
		typ, _, _ := strings.Cut(object, ":")
		w.most += len(namesOfType(s, typ))
	}
	return w
}

// caveatOf hands on no more than the caveat asks for: what both say may be too much for a record.
func (w *wordCheck) caveatOf(t impl.Tuple) int {
	if t.Caveat == "" {
		return impl.Yes
	}
	at := slices.IndexFunc(w.schema.Caveats, func(c impl.Caveat) bool { return c.Name == t.Caveat })
	both := recordValue(nil)
	for _, p := range w.schema.Caveats[at].Params {
		for _, v := range []impl.Value{t.Given, w.given} {
			if i := slices.Index(v.Names, p.Name); i >= 0 {
				both.Names, both.Items = append(both.Names, p.Name), append(both.Items, v.Items[i])
				break
			}
		}
	}
	return caveatByWords(w.schema.Caveats[at], both)
}

// isReached says whether another name has at least that value.
func (w *wordCheck) isReached(object string, name string, least int, steps int) bool {
	own := object + "#" + name
	if w.told != nil {
		return ranks[w.told[own]] >= ranks[least]
	}
	key := own + " " + strconv.Itoa(least) + " " + strconv.Itoa(steps)
	if _, ok := w.found[key]; !ok {
		w.found[key] = steps > 0 && w.reaches(object, name, least, steps-1)
	}
	return w.found[key]
}

func (w *wordCheck) reaches(object string, name string, least int, steps int) bool {
	typ, _, _ := strings.Cut(object, ":")
	at := slices.IndexFunc(w.schema.Types, func(t impl.RelType) bool { return t.Name == typ })
	for _, p := range w.schema.Types[at].Permissions {
		if p.Name == name {
			return w.bodyReaches(object, p.Body, least, steps)
		}
	}
	return slices.ContainsFunc(w.tuplesOf(object, name), func(t impl.Tuple) bool { return w.tupleReaches(t, least, steps) })
}

func (w *wordCheck) tuplesOf(object string, rel string) []impl.Tuple {
	var out []impl.Tuple
	for _, t := range w.list {
		if objectText(t.Type, t.Id) == object && t.Rel == rel {
			out = append(out, t)
		}
	}
	return out
}

func (w *wordCheck) tupleReaches(t impl.Tuple, least int, steps int) bool {
	if ranks[w.caveatOf(t)] < ranks[least] {
		return false
	}
	typ, _, _ := strings.Cut(w.subject, ":")
	isStar := t.SubId == "*" && t.SubType == typ && !strings.Contains(w.subject, "#")
	isSame := subjectTextOf(t.SubType, t.SubId, t.SubRel) == w.subject
	return isStar || isSame || t.SubRel != "" && w.isReached(objectText(t.SubType, t.SubId), t.SubRel, least, steps)
}

// arrowTuples are those that count for an arrow.
func (w *wordCheck) arrowTuples(object string, n impl.Rewrite) []impl.Tuple {
	return slices.DeleteFunc(w.tuplesOf(object, n.Via), func(t impl.Tuple) bool {
		return t.SubRel != "" || t.SubId == "*" || !isSomeOf(w.schema, t.SubType, n.Name)
	})
}

// bodyReaches asks of what is taken away whether it reaches too much; there is no way back from it, so it may take all steps.
func (w *wordCheck) bodyReaches(object string, body []impl.Rewrite, least int, steps int) bool {
	n := body[0]
	switch n.Kind {
	case impl.RewriteNil:
		return false
	case impl.RewriteName:
		return w.isReached(object, n.Name, least, steps)
	case impl.RewriteArrow:
		return slices.ContainsFunc(w.arrowTuples(object, n), func(t impl.Tuple) bool {
			return ranks[w.caveatOf(t)] >= ranks[least] && w.isReached(objectText(t.SubType, t.SubId), n.Name, least, steps)
		})
	}
	ends, _ := endsOf(body)
	first, second := body[1:ends[1]], body[ends[1]:]
	switch n.Kind {
	case impl.RewriteUnion:
		return w.bodyReaches(object, first, least, steps) || w.bodyReaches(object, second, least, steps)
	case impl.RewriteMeet:
		return w.bodyReaches(object, first, least, steps) && w.bodyReaches(object, second, least, steps)
	}
	tooMuch := impl.Maybe
	if least == impl.Maybe {
		tooMuch = impl.Yes
	}
	return w.bodyReaches(object, first, least, steps) && !w.bodyReaches(object, second, tooMuch, w.most)
}

// valueOf is what a name has by its rule.
func (w *wordCheck) valueOf(object string, name string) int {
	for _, least := range []int{impl.Yes, impl.Maybe} {
		if w.reaches(object, name, least, w.most) {
			return least
		}
	}
	return impl.No
}

func checkByWords(s impl.RelSchema, list []impl.Tuple, a impl.Ask, given impl.Value) int {
	if !isAskable(s, list, a, given) {
		return -1
	}
	return wordCheckOf(s, list, a, given).valueOf(objectText(a.Type, a.Id), a.Name)
}

func (w *wordCheck) factsOf(objects []string) []impl.Fact {
	var out []impl.Fact
	for _, object := range objects {
		typ, id, _ := strings.Cut(object, ":")
		for _, name := range slices.Sorted(slices.Values(namesOfType(w.schema, typ))) {
			if value := w.valueOf(object, name); value != impl.No {
				out = append(out, impl.Fact{Type: typ, Id: id, Name: name, Value: value})
			}
		}
	}
	return out
}

func factsByWords(s impl.RelSchema, list []impl.Tuple, a impl.Ask, given impl.Value) []impl.Fact {
	if !isAskable(s, list, a, given) {
		return nil
	}
	return wordCheckOf(s, list, a, given).factsOf(objectsByWords(list, a))
}

// supportedByWords goes by the words: it asks of each thing that is told of the facts by itself.
func supportedByWords(s impl.RelSchema, list []impl.Tuple, a impl.Ask, given impl.Value, facts []impl.Fact) bool {
	if !isAskable(s, list, a, given) {
		return false
	}
	var keys []string
	told, objects := map[string]int{}, objectsByWords(list, a)
	for _, f := range facts {
		if f.Value != impl.Yes && f.Value != impl.Maybe || !isSomeOf(s, f.Type, f.Name) || !slices.Contains(objects, objectText(f.Type, f.Id)) {
			return false
		}
		keys = append(keys, strings.Join([]string{f.Type, f.Id, f.Name}, "\x01"))
		told[objectText(f.Type, f.Id)+"#"+f.Name] = f.Value
	}
	if !risesByWords(keys) {
		return false
	}
	w := wordCheckOf(s, list, a, given)
	w.told = told
	for _, object := range objects {
		typ, _, _ := strings.Cut(object, ":")
		for _, name := range namesOfType(s, typ) {
			if w.valueOf(object, name) != told[object+"#"+name] {
				return false
			}
		}
	}
	return true
}

// subjectsByWords asks for `*` with an id that is longer than those of the tests.
func subjectsByWords(s impl.RelSchema, list []impl.Tuple, a impl.Ask, given impl.Value) []impl.Fact {
	if !isAskable(s, list, a, given) {
		return nil
	}
	var ids []string
	for _, t := range list {
		if t.SubType == a.SubType && t.SubRel == "" && t.SubId != "*" {
			ids = append(ids, t.SubId)
		}
	}
	slices.Sort(ids)
	var out []impl.Fact
	for _, id := range append(slices.Compact(ids), "*") {
		a.SubId, a.SubRel = id, ""
		if id == "*" {
			a.SubId = longId("Q")
		}
		if value := checkByWords(s, list, a, given); value != impl.No {
			out = append(out, impl.Fact{Type: a.SubType, Id: id, Name: a.Name, Value: value})
		}
	}
	return out
}

func objectsOfByWords(s impl.RelSchema, list []impl.Tuple, a impl.Ask, given impl.Value) []impl.Fact {
	if !isAskable(s, list, a, given) {
		return nil
	}
	var ids []string
	for _, t := range list {
		if t.Type == a.Type {
			ids = append(ids, t.Id)
		}
		if t.SubType == a.Type && t.SubId != "*" {
			ids = append(ids, t.SubId)
		}
	}
	slices.Sort(ids)
	var out []impl.Fact
	for _, id := range slices.Compact(ids) {
		a.Id = id
		if value := checkByWords(s, list, a, given); value != impl.No {
			out = append(out, impl.Fact{Type: a.Type, Id: id, Name: a.Name, Value: value})
		}
	}
	return out
}

// expandBodyByWords goes from the last node on: the texts of a node's kids are the last two then.
func (w *wordCheck) expandBodyByWords(object string, body []impl.Rewrite, within []string) string {
	var texts []string
	for _, n := range slices.Backward(body) {
		switch n.Kind {
		case impl.RewriteNil:
			texts = append(texts, "nil")
		case impl.RewriteName:
			texts = append(texts, w.expandNameByWords(object, n.Name, within))
		case impl.RewriteArrow:
			var ends []string
			for _, t := range w.arrowTuples(object, n) {
				ends = append(ends, w.expandNameByWords(objectText(t.SubType, t.SubId), n.Name, within))
			}
			texts = append(texts, n.Via+"->"+n.Name+"["+strings.Join(ends, ",")+"]")
		default:
			last := len(texts) - 1
			sign := []string{impl.RewriteUnion: "+", impl.RewriteMeet: "&", impl.RewriteLess: "-"}[n.Kind]
			texts = append(texts[:last-1], "("+texts[last]+" "+sign+" "+texts[last-1]+")")
		}
	}
	return texts[0]
}

func (w *wordCheck) expandNameByWords(object string, name string, within []string) string {
	own := object + "#" + name
	if slices.Contains(within, own) {
		return own + ".."
	}
	typ, _, _ := strings.Cut(object, ":")
	for _, t := range w.schema.Types {
		for _, p := range t.Permissions {
			if t.Name == typ && p.Name == name {
				return own + "(" + w.expandBodyByWords(object, p.Body, append(slices.Clip(within), own)) + ")"
			}
		}
	}
	var subjects []string
	for _, t := range w.tuplesOf(object, name) {
		_, subject, _ := strings.Cut(tupleTextByWords(t), "@")
		subjects = append(subjects, subject)
	}
	return own + "{" + strings.Join(subjects, ",") + "}"
}

func expandByWords(s impl.RelSchema, list []impl.Tuple, typ string, id string, name string) string {
	if !idForm.MatchString(id) || !isSomeOf(s, typ, name) || !goodTuplesByWords(s, list) {
		return ""
	}
	w := &wordCheck{schema: s, list: list}
	text := w.expandNameByWords(objectText(typ, id), name, nil)
	if len(text) > 20000 {
		return ""
	}
	return text
}
