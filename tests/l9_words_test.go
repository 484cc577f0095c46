package tests

import (
	"slices"

	"loop.example/g00036/impl"
)

// What the document says of chapter 9, worked out in other ways than the program does: lists that are cut and put together, each two entries held against each other, names as texts.

func isKeptOf(k impl.Kept, a impl.Ask, given impl.Value) bool {
	return k.Ask == a && sameValue(k.Given, given)
}

func goodKeptByWords(s impl.RelSchema, newest int, k impl.Kept) bool {
	return fitsAskByWords(s, k.Ask) && isRecord(k.Given) && isBetween(k.Rev, 0, newest) && slices.Contains([]int{0, 1, 2}, k.Value)
}

// fitCacheByWords takes the store as a good one.
func fitCacheByWords(s impl.RelSchema, newest int, cache []impl.Kept) bool {
	if len(cache) > 20 {
		return false
	}
	for i, k := range cache {
		again := func(other impl.Kept) bool { return isKeptOf(other, k.Ask, k.Given) }
		if !goodKeptByWords(s, newest, k) || slices.ContainsFunc(cache[:i], again) {
			return false
		}
	}
	return true
}

func goodCacheByWords(s impl.RelSchema, batches [][]impl.Write, cache []impl.Kept) bool {
	return len(storeByWords(s, batches)) > 0 && fitCacheByWords(s, len(batches), cache)
}

func honestByWords(s impl.RelSchema, batches [][]impl.Write, cache []impl.Kept) bool {
	if !goodCacheByWords(s, batches, cache) {
		return false
	}
	all := storeByWords(s, batches)
	return !slices.ContainsFunc(cache, func(k impl.Kept) bool { return checkByWords(s, all[k.Rev], k.Ask, k.Given) != k.Value })
}

func askKeptByWords(s impl.RelSchema, batches [][]impl.Write, cache []impl.Kept, a impl.Ask, given impl.Value, least int) (int, int, []impl.Kept) {
	newest := len(batches)
	if !goodCacheByWords(s, batches, cache) || !fitsAskByWords(s, a) || !isRecord(given) || !isBetween(least, 0, newest) {
		return -1, 0, nil
	}
	one := impl.Kept{Ask: a, Given: given, Rev: newest, Value: checkByWords(s, storeByWords(s, batches)[newest], a, given)}
	out := []impl.Kept{one}
	for _, k := range cache {
		if !isKeptOf(k, a, given) {
			out = append(out, k)
		} else if k.Rev >= least {
			out[0] = k
		}
	}
	return out[0].Value, out[0].Rev, out[:min(len(out), 20)]
}

// affectedByWords asks of each name whether it leans on the relation of one of the writes.
func affectedByWords(s impl.RelSchema, writes []impl.Write) []impl.Stratum {
	if len(writes) > 1000 || !goodRelByWords(s) {
		return nil
	}
	touched := map[impl.Stratum]int{}
	for _, w := range writes {
		if !slices.Contains([]int{1, 2, 3}, w.Kind) || !fitsByWords(s, w.Tuple) {
			return nil
		}
		for _, one := range strataByWords(s, w.Tuple.Type+"#"+w.Tuple.Rel) {
			touched[one]++
		}
	}
	return slices.DeleteFunc(strataByWords(s, ""), func(one impl.Stratum) bool { return touched[one] == 0 })
}

func freshenByWords(s impl.RelSchema, batches [][]impl.Write, cache []impl.Kept) []impl.Kept {
	if !goodCacheByWords(s, batches, cache) {
		return nil
	}
	all, newest := storeByWords(s, batches), len(batches)
	out := slices.Clone(cache)
	for i, k := range cache {
		isOwn := func(one impl.Stratum) bool { return one.Type == k.Ask.Type && one.Name == k.Ask.Name }
		if !slices.ContainsFunc(affectedByWords(s, changesByWords(all[k.Rev], all[newest])), isOwn) {
			out[i].Rev = newest
		}
	}
	return out
}

func purgeByWords(s impl.RelSchema, batches [][]impl.Write, cache []impl.Kept, window int) []impl.Kept {
	if !isBetween(window, 0, 1000) || !goodCacheByWords(s, batches, cache) {
		return nil
	}
	return slices.DeleteFunc(slices.Clone(cache), func(k impl.Kept) bool { return k.Rev < len(batches)-window })
}

func updateByWords(s impl.RelSchema, list []impl.Tuple, a impl.Ask, given impl.Value, writes []impl.Write) []impl.Fact {
	res := applyByWords(s, list, writes)
	if res.Err != 0 {
		return nil
	}
	return factsByWords(s, res.Tuples, a, given)
}

func sameKept(a impl.Kept, b impl.Kept) bool {
	return isKeptOf(a, b.Ask, b.Given) && a.Rev == b.Rev && a.Value == b.Value
}

func sameCache(a []impl.Kept, b []impl.Kept) bool {
	return slices.EqualFunc(a, b, sameKept)
}
