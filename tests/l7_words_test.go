package tests

import (
	"regexp"
	"slices"
	"strconv"
	"strings"

	"loop.example/g00036/impl"
)

// What the document says of chapter 7, worked out in other ways than the program does: lists that are gone through, places as texts, forms of texts.

var (
	idForm    = regexp.MustCompile(`^[a-zA-Z0-9_.-]{1,40}$`)
	tupleForm = regexp.MustCompile(strings.ReplaceAll(`^(NAME):([^:#@]*)#(NAME)@(NAME):([^:#@[]*)(?:#(NAME))?(?:\[(NAME):(.*)\])?$`, "NAME", `[a-zA-Z_][a-zA-Z0-9_]{0,29}`))
	tokenForm = regexp.MustCompile(`^r(0|[1-9][0-9]{0,5}|1000000)\.`)
)

func isSubIdByWords(text string) bool {
	return text == "*" || idForm.MatchString(text)
}

// givenFitsByWords asks the schema's caveat of that name; a tuple's kind of subject has it.
func givenFitsByWords(s impl.RelSchema, caveat string, given impl.Value) bool {
	if caveat == "" {
		return isZero(given)
	}
	at := slices.IndexFunc(s.Caveats, func(c impl.Caveat) bool { return c.Name == caveat })
	if at < 0 || !isRecord(given) {
		return false
	}
	for i, name := range given.Names {
		if !slices.Contains(s.Caveats[at].Params, param(name, given.Items[i].Kind)) {
			return false
		}
	}
	return true
}

// fitsByWords takes the schema as a good one.
func fitsByWords(s impl.RelSchema, t impl.Tuple) bool {
	if !idForm.MatchString(t.Id) || !isSubIdByWords(t.SubId) || !givenFitsByWords(s, t.Caveat, t.Given) {
		return false
	}
	for _, typ := range s.Types {
		for _, r := range typ.Relations {
			for _, k := range r.Subjects {
				told := typ.Name + ":" + r.Name + "@" + k.Type + "#" + k.Rel + "[" + k.Caveat
				if told == t.Type+":"+t.Rel+"@"+t.SubType+"#"+t.SubRel+"["+t.Caveat && k.Star == (t.SubId == "*") {
					return true
				}
			}
		}
	}
	return false
}

func goodTupleByWords(s impl.RelSchema, t impl.Tuple) bool {
	return goodRelByWords(s) && fitsByWords(s, t)
}

// placeKey is less for a place that is less: the byte between is below all that stand in names and ids.
func placeKey(t impl.Tuple) string {
	return strings.Join([]string{t.Type, t.Id, t.Rel, t.SubType, t.SubId, t.SubRel}, "\x01")
}

func placeKeys(list []impl.Tuple) []string {
	var keys []string
	for _, t := range list {
		keys = append(keys, placeKey(t))
	}
	return keys
}

func fitListByWords(s impl.RelSchema, list []impl.Tuple) bool {
	if len(list) > 150 || slices.ContainsFunc(list, func(t impl.Tuple) bool { return !fitsByWords(s, t) }) {
		return false
	}
	return risesByWords(placeKeys(list))
}

func goodTuplesByWords(s impl.RelSchema, list []impl.Tuple) bool {
	return goodRelByWords(s) && fitListByWords(s, list)
}

func tupleTextByWords(t impl.Tuple) string {
	for _, name := range []string{t.Type, t.Rel, t.SubType} {
		if !changeName.MatchString(name) {
			return ""
		}
	}
	for _, name := range []string{t.SubRel, t.Caveat} {
		if name != "" && !changeName.MatchString(name) {
			return ""
		}
	}
	given := ""
	switch {
	case !idForm.MatchString(t.Id) || !isSubIdByWords(t.SubId):
		return ""
	case t.Caveat == "" && !isZero(t.Given) || t.Caveat != "" && !isRecord(t.Given):
		return ""
	case t.Caveat != "":
		given = "[" + t.Caveat + ":" + impl.ValueText(t.Given) + "]"
	}
	return strings.TrimSuffix(strings.Join([]string{t.Type, ":", t.Id, "#", t.Rel, "@", t.SubType, ":", t.SubId, "#", t.SubRel}, ""), "#") + given
}

func readTupleByWords(text string) (impl.Tuple, bool) {
	m := tupleForm.FindStringSubmatch(text)
	if m == nil || !idForm.MatchString(m[2]) || !isSubIdByWords(m[5]) {
		return impl.Tuple{}, false
	}
	t := impl.Tuple{Type: m[1], Id: m[2], Rel: m[3], SubType: m[4], SubId: m[5], SubRel: m[6], Caveat: m[7]}
	if t.Caveat == "" {
		return t, true
	}
	given, ok := impl.ReadValue(m[8])
	if !ok || !isRecord(given) {
		return impl.Tuple{}, false
	}
	t.Given = given
	return t, true
}

func sameTuple(a impl.Tuple, b impl.Tuple) bool {
	return placeKey(a) == placeKey(b) && a.Caveat == b.Caveat && sameValue(a.Given, b.Given)
}

func sameTuples(a []impl.Tuple, b []impl.Tuple) bool {
	return slices.EqualFunc(a, b, sameTuple)
}

func sameWrite(a impl.Write, b impl.Write) bool {
	return a.Kind == b.Kind && sameTuple(a.Tuple, b.Tuple)
}

func sameWrites(a []impl.Write, b []impl.Write) bool {
	return slices.EqualFunc(a, b, sameWrite)
}

func sameBatches(a [][]impl.Write, b [][]impl.Write) bool {
	return slices.EqualFunc(a, b, sameWrites)
}

func sameStoreRes(a impl.StoreRes, b impl.StoreRes) bool {
	return a.Err == b.Err && a.At == b.At && sameTuples(a.Tuples, b.Tuples)
}

func placeIn(list []impl.Tuple, t impl.Tuple) int {
	return slices.Index(placeKeys(list), placeKey(t))
}

// doneByWords takes the schema and the list as good ones.
func doneByWords(s impl.RelSchema, list []impl.Tuple, writes []impl.Write) impl.StoreRes {
	if len(writes) > 30 {
		return impl.StoreRes{Err: 1}
	}
	for i, w := range writes {
		if !slices.Contains([]int{1, 2, 3, 4, 5}, w.Kind) || !fitsByWords(s, w.Tuple) {
			return impl.StoreRes{Err: 2, At: i}
		}
	}
	for i, w := range writes {
		there := placeIn(list, w.Tuple) >= 0
		if w.Kind == 4 && !there || w.Kind == 5 && there {
			return impl.StoreRes{Err: 3, At: i}
		}
	}
	left := slices.Clone(list)
	for i, w := range writes {
		at := placeIn(left, w.Tuple)
		switch {
		case w.Kind == 2 && at >= 0:
			return impl.StoreRes{Err: 4, At: i}
		case w.Kind == 3 && at < 0:
			return impl.StoreRes{Err: 5, At: i}
		case w.Kind == 3:
			left = slices.Delete(left, at, at+1)
		case w.Kind < 3:
			if at >= 0 {
				left = slices.Delete(left, at, at+1)
			}
			left = append(left, w.Tuple)
		}
	}
	if len(left) > 150 {
		return impl.StoreRes{Err: 6}
	}
	slices.SortFunc(left, func(a, b impl.Tuple) int { return strings.Compare(placeKey(a), placeKey(b)) })
	return impl.StoreRes{Tuples: left}
}

func applyByWords(s impl.RelSchema, list []impl.Tuple, writes []impl.Write) impl.StoreRes {
	if !goodTuplesByWords(s, list) {
		return impl.StoreRes{Err: 1}
	}
	return doneByWords(s, list, writes)
}

// storeByWords are the tuples at each revision, none of them where the store is not good.
func storeByWords(s impl.RelSchema, batches [][]impl.Write) [][]impl.Tuple {
	if !goodRelByWords(s) || len(batches) > 60 {
		return nil
	}
	all := [][]impl.Tuple{nil}
	for i, writes := range batches {
		res := doneByWords(s, all[i], writes)
		if res.Err != 0 {
			return nil
		}
		all = append(all, res.Tuples)
	}
	return all
}

func acceptByWords(s impl.RelSchema, batches [][]impl.Write, writes []impl.Write) ([][]impl.Write, int) {
	all := storeByWords(s, batches)
	if len(all) == 0 || len(batches) == 60 {
		return nil, 7
	}
	if res := doneByWords(s, all[len(batches)], writes); res.Err != 0 {
		return nil, res.Err
	}
	return append(slices.Clone(batches), writes), 0
}

// changesByWords goes through the places of both lists.
func changesByWords(before []impl.Tuple, after []impl.Tuple) []impl.Write {
	keys := append(placeKeys(before), placeKeys(after)...)
	slices.Sort(keys)
	var out []impl.Write
	for _, key := range slices.Compact(keys) {
		was, is := slices.Index(placeKeys(before), key), slices.Index(placeKeys(after), key)
		switch {
		case is < 0:
			out = append(out, impl.Write{Kind: 3, Tuple: before[was]})
		case was < 0 || !sameTuple(before[was], after[is]):
			out = append(out, impl.Write{Kind: 1, Tuple: after[is]})
		}
	}
	return out
}

func tokenByWords(secret int, rev int) string {
	if !isBetween(secret, 1, impl.Order-1) || !isBetween(rev, 0, 1000000) {
		return ""
	}
	own := "r" + strconv.Itoa(rev)
	return own + "." + armorByWords(macByWords(fourBytes(secret), []byte(own))[:8])
}

func readTokenByWords(secret int, text string) (int, bool) {
	m := tokenForm.FindStringSubmatch(text)
	if m == nil {
		return 0, false
	}
	rev, _ := strconv.Atoi(m[1])
	if tokenByWords(secret, rev) != text {
		return 0, false
	}
	return rev, true
}
