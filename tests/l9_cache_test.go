package tests

import (
	"math"
	"math/rand"
	"slices"
	"strconv"
	"strings"
	"testing"

	"loop.example/g00036/impl"
)

func TestConstantsOfCaches(t *testing.T) {
	if impl.MaxCache != 20 {
		t.Errorf("MaxCache: got %d", impl.MaxCache)
	}
	if len(storeByWords(desks(), shelves())) != 8 {
		t.Errorf("the store of the tests: want a good one of seven batches")
	}
}

// The values that the tests of the chapter tell by hand are what Check says.
func TestValuesOfShelves(t *testing.T) {
	s, store := desks(), shelves()
	for text, letters := range shelfValues() {
		for rev := range letters {
			k := shelfKept(text, rev)
			list := impl.TuplesAt(s, store, rev)
			if got := impl.Check(s, list, k.Ask, k.Given); got != k.Value || checkByWords(s, list, k.Ask, k.Given) != k.Value {
				t.Errorf("%s at %d: got %d", text, rev, got)
			}
		}
	}
}

func TestGoodCache(t *testing.T) {
	s, store := desks(), shelves()
	for i, cache := range [][]impl.Kept{
		nil, {}, shelfCache(1), shelfCache(2), shelfCache(19), shelfCache(20), countedCache(20, 0), countedCache(20, 7),
		cacheOf("doc:d1#view@user:ann {} 0 yes"), cacheOf("doc:d1#view@user:ann {} 7 maybe"), cacheOf("doc:d9#view@doc:d9#view {x:1} 3 no"),
	} {
		if !impl.GoodCache(s, store, cache) || !goodCacheByWords(s, store, cache) {
			t.Errorf("cache %d, %s: want it good", i, cacheText(cache))
		}
	}
	for i, cache := range badCaches() {
		if impl.GoodCache(s, store, cache) || goodCacheByWords(s, store, cache) {
			t.Errorf("bad cache %d, %.300s: want false", i, shown(cache))
		}
		if impl.Honest(s, store, cache) {
			t.Errorf("bad cache %d, %.300s: want it not honest", i, shown(cache))
		}
	}
}

func TestSizesOfCaches(t *testing.T) {
	s, store := desks(), shelves()
	for many := range 30 {
		if got := impl.GoodCache(s, store, countedCache(many, 7)); got != (many <= 20) {
			t.Errorf("a cache of %d: got %v", many, got)
		}
		if got := impl.Honest(s, store, countedCache(many, 7)); got != (many <= 20) {
			t.Errorf("an honest cache of %d: got %v", many, got)
		}
	}
}

// Each revision by each beginning of a store, down to none at all.
func TestRevsOfCaches(t *testing.T) {
	s := desks()
	for many := range len(shelves()) + 1 {
		store := shelves()[:many]
		for _, rev := range append(badRevs(), 0, 1, 2, 3, 4, 5, 6, 7) {
			cache := append(countedCache(2, 0), keptOf("doc:d1#view@user:ann {} 0 no"))
			cache[1].Rev = rev
			if got := impl.GoodCache(s, store, cache); got != isBetween(rev, 0, many) {
				t.Errorf("Rev %d by a store of %d: got %v", rev, many, got)
			}
			if got := impl.Honest(s, store, cache); got != isBetween(rev, 0, many) {
				t.Errorf("Rev %d by a store of %d: got honest %v", rev, many, got)
			}
		}
	}
}

func TestValuesOfCaches(t *testing.T) {
	s, store := desks(), shelves()
	for _, value := range append(oddInts(), 0, 1, 2, 3) {
		for at := range 3 {
			cache := changedKept(shelfCache(3), at, func(k *impl.Kept) { k.Value = value })
			good := value == impl.No || value == impl.Yes || value == impl.Maybe
			if got := impl.GoodCache(s, store, cache); got != good {
				t.Errorf("Value %d: got %v", value, got)
			}
			if got := impl.Honest(s, store, cache); got != (value == shelfCache(3)[at].Value) {
				t.Errorf("Value %d at entry %d: got honest %v", value, at, got)
			}
		}
	}
}

// Two entries may have the one or the other alike, but not both.
func TestEntriesOfOneAsk(t *testing.T) {
	s, store := desks(), shelves()
	asks := []string{"doc:d1#view@user:ann", "doc:d2#view@user:ann", "doc:d1#read@user:ann", "doc:d1#view@user:bob", "doc:d1#view@group:ann", "doc:d1#view@group:ann#member", "folder:d1#see@user:ann", "folder:d1#owner@user:ann", "doc:d1#owner@user:ann"}
	givens := []string{"{}", "{now:@3}", "{now:@4}", "{now:3}", "{now:\"@3\"}", "{zone:@3}", "{now:@3,zone:\"a\"}", "{x:1,y:1}", "{x:1}", "{y:1}"}
	var all []impl.Kept
	for _, ask := range asks {
		for _, given := range givens {
			all = append(all, keptOf(ask+" "+given+" 0 no"))
		}
	}
	for i, one := range all {
		for j, other := range all {
			if got := impl.GoodCache(s, store, []impl.Kept{one, other}); got != (i != j) {
				t.Errorf("%s: got %v", cacheText([]impl.Kept{one, other}), got)
			}
			later := other
			later.Rev, later.Value = 4, impl.Yes
			if got := impl.GoodCache(s, store, []impl.Kept{one, all[(i+j)%len(all)], later}); got != fitCacheByWords(s, 7, []impl.Kept{one, all[(i+j)%len(all)], later}) {
				t.Errorf("%s: got %v", cacheText([]impl.Kept{one, later}), got)
			}
		}
	}
}

func TestHonest(t *testing.T) {
	s, store := desks(), shelves()
	for text, letters := range shelfValues() {
		for rev := range letters {
			for _, value := range []int{impl.No, impl.Maybe, impl.Yes} {
				k := shelfKept(text, rev)
				want := k.Value == value
				k.Value = value
				if got := impl.Honest(s, store, []impl.Kept{k}); got != want {
					t.Errorf("%s: got %v", cacheText([]impl.Kept{k}), got)
				}
				if !impl.GoodCache(s, store, []impl.Kept{k}) {
					t.Errorf("%s: want it good, honest or not", cacheText([]impl.Kept{k}))
				}
			}
		}
	}
	for many := range 21 {
		if !impl.Honest(s, store, shelfCache(many)) {
			t.Errorf("a cache of %d entries: want it honest", many)
		}
	}
}

// One entry that is not right is enough, wherever it stands; the store's beginning does not count against the others.
func TestHonestLooksAtEachEntry(t *testing.T) {
	s, store := desks(), shelves()
	for at := range 20 {
		for _, value := range []int{impl.No, impl.Maybe, impl.Yes} {
			cache := changedKept(shelfCache(20), at, func(k *impl.Kept) { k.Value = value })
			if got := impl.Honest(s, store, cache); got != (value == shelfCache(20)[at].Value) {
				t.Errorf("entry %d with %d: got %v", at, value, got)
			}
		}
	}
	// What was right stays so, whatever is written behind it.
	cache := cacheOf("doc:d1#view@user:ann {} 1 yes", "doc:d1#view@user:bob {} 1 no")
	for many := 1; many <= len(store); many++ {
		if !impl.Honest(s, store[:many], cache) {
			t.Errorf("revision 1 of a store of %d: want it honest", many)
		}
	}
	if impl.Honest(s, store[:0], cache) {
		t.Errorf("revision 1 of no batches: want false")
	}
}

// keptCase is an ask of a cache by shelves, told by texts.
type keptCase struct {
	cache []string
	ask   string
	least int
	value string
	rev   int
	want  []string
}

func TestAskKept(t *testing.T) {
	s, store := desks(), shelves()
	const ann, bob, cy = "doc:d1#view@user:ann {}", "doc:d1#view@user:bob {}", "doc:d1#view@user:cy {}"
	for i, c := range []keptCase{
		{nil, ann, 0, "yes", 7, []string{ann + " 7 yes"}},
		{nil, ann, 7, "yes", 7, []string{ann + " 7 yes"}},
		{nil, bob, 3, "maybe", 7, []string{bob + " 7 maybe"}},
		{nil, "doc:d9#view@user:ann {}", 3, "no", 7, []string{"doc:d9#view@user:ann {} 7 no"}},
		{[]string{ann + " 3 no"}, ann, 0, "no", 3, []string{ann + " 3 no"}},
		{[]string{ann + " 3 no"}, ann, 2, "no", 3, []string{ann + " 3 no"}},
		{[]string{ann + " 3 no"}, ann, 3, "no", 3, []string{ann + " 3 no"}},
		{[]string{ann + " 3 no"}, ann, 4, "yes", 7, []string{ann + " 7 yes"}},
		{[]string{ann + " 3 no"}, ann, 7, "yes", 7, []string{ann + " 7 yes"}},
		{[]string{ann + " 0 no"}, ann, 0, "no", 0, []string{ann + " 0 no"}},
		{[]string{ann + " 0 no"}, ann, 1, "yes", 7, []string{ann + " 7 yes"}},
		{[]string{ann + " 7 yes"}, ann, 7, "yes", 7, []string{ann + " 7 yes"}},
		{[]string{ann + " 6 no"}, ann, 7, "yes", 7, []string{ann + " 7 yes"}},
		// Where it stands.
		{[]string{ann + " 3 no", bob + " 2 maybe", cy + " 1 no"}, ann, 3, "no", 3, []string{ann + " 3 no", bob + " 2 maybe", cy + " 1 no"}},
		{[]string{bob + " 2 maybe", ann + " 3 no", cy + " 1 no"}, ann, 3, "no", 3, []string{ann + " 3 no", bob + " 2 maybe", cy + " 1 no"}},
		{[]string{bob + " 2 maybe", cy + " 1 no", ann + " 3 no"}, ann, 3, "no", 3, []string{ann + " 3 no", bob + " 2 maybe", cy + " 1 no"}},
		{[]string{ann + " 3 no", bob + " 2 maybe", cy + " 1 no"}, ann, 4, "yes", 7, []string{ann + " 7 yes", bob + " 2 maybe", cy + " 1 no"}},
		{[]string{bob + " 2 maybe", ann + " 3 no", cy + " 1 no"}, ann, 4, "yes", 7, []string{ann + " 7 yes", bob + " 2 maybe", cy + " 1 no"}},
		{[]string{bob + " 2 maybe", cy + " 1 no", ann + " 3 no"}, ann, 4, "yes", 7, []string{ann + " 7 yes", bob + " 2 maybe", cy + " 1 no"}},
		{[]string{cy + " 1 no", bob + " 2 maybe"}, ann, 0, "yes", 7, []string{ann + " 7 yes", cy + " 1 no", bob + " 2 maybe"}},
		// Another given is another entry.
		{[]string{bob + " 2 maybe"}, "doc:d1#view@user:bob {now:@3}", 0, "yes", 7, []string{"doc:d1#view@user:bob {now:@3} 7 yes", bob + " 2 maybe"}},
		{[]string{bob + " 2 maybe", "doc:d1#view@user:bob {now:@3} 2 yes"}, "doc:d1#view@user:bob {now:@3}", 2, "yes", 2, []string{"doc:d1#view@user:bob {now:@3} 2 yes", bob + " 2 maybe"}},
		{[]string{bob + " 2 maybe", "doc:d1#view@user:bob {now:@3} 2 yes"}, "doc:d1#view@user:bob {now:@10}", 2, "no", 7, []string{"doc:d1#view@user:bob {now:@10} 7 no", bob + " 2 maybe", "doc:d1#view@user:bob {now:@3} 2 yes"}},
		// Another name, object or subject, too.
		{[]string{"doc:d1#viewer@user:ann {} 3 yes"}, ann, 0, "yes", 7, []string{ann + " 7 yes", "doc:d1#viewer@user:ann {} 3 yes"}},
		{[]string{"doc:d1#view@group:g1#member {} 3 yes"}, "doc:d1#view@group:g1 {}", 0, "no", 7, []string{"doc:d1#view@group:g1 {} 7 no", "doc:d1#view@group:g1#member {} 3 yes"}},
		// An answer that is not honest is kept all the same, until it is too old.
		{[]string{ann + " 3 maybe"}, ann, 3, "maybe", 3, []string{ann + " 3 maybe"}},
		{[]string{ann + " 7 no"}, ann, 7, "no", 7, []string{ann + " 7 no"}},
		{[]string{ann + " 3 maybe", bob + " 2 no"}, ann, 4, "yes", 7, []string{ann + " 7 yes", bob + " 2 no"}},
	} {
		ask, given, _ := strings.Cut(c.ask, " ")
		value, rev, cache := impl.AskKept(s, store, cacheOf(c.cache...), askOf(ask), givenOf(given), c.least)
		if !isBetween(value, 0, 2) || wordsOfValues[value] != c.value || rev != c.rev || !sameCache(cache, cacheOf(c.want...)) {
			t.Errorf("case %d, %s of %s with least %d: got %d, %d, %s", i, c.ask, c.cache, c.least, value, rev, cacheText(cache))
		}
		sameAsWords(t, s, store, cacheOf(c.cache...), askOf(ask), givenOf(given), c.least)
	}
}

// sameAsWords holds AskKept against its words; it answers the cache.
func sameAsWords(t *testing.T, s impl.RelSchema, store [][]impl.Write, cache []impl.Kept, a impl.Ask, given impl.Value, least int) []impl.Kept {
	t.Helper()
	value, rev, kept := impl.AskKept(s, store, cache, a, given, least)
	wantValue, wantRev, wantKept := askKeptByWords(s, store, cache, a, given, least)
	if value != wantValue || rev != wantRev || !sameCache(kept, wantKept) {
		t.Errorf("AskKept of %+v, %s, %d by %s: got %d, %d, %s, want %d, %d, %s", a, impl.ValueText(given), least, cacheText(cache), value, rev, cacheText(kept), wantValue, wantRev, cacheText(wantKept))
	}
	return kept
}

// Each least by each Rev that is kept, by each beginning of the store.
func TestLeastOfAskKept(t *testing.T) {
	s := desks()
	for many := range len(shelves()) + 1 {
		store := shelves()[:many]
		for kept := range many + 1 {
			cache := []impl.Kept{countedCache(1, kept)[0], shelfKept("doc:d1#view@user:ann {}", kept)}
			for _, least := range append(badRevs(), 0, 1, 2, 3, 4, 5, 6, 7) {
				value, rev, got := impl.AskKept(s, store, cache, cache[1].Ask, cache[1].Given, least)
				switch {
				case !isBetween(least, 0, many):
					if value != -1 || rev != 0 || len(got) != 0 {
						t.Errorf("least %d by a store of %d: got %d, %d, %s", least, many, value, rev, cacheText(got))
					}
				case kept >= least:
					if rev != kept || value != cache[1].Value || !sameCache(got, []impl.Kept{cache[1], cache[0]}) {
						t.Errorf("least %d of Rev %d by a store of %d: got %d, %d, %s", least, kept, many, value, rev, cacheText(got))
					}
				default:
					want := shelfKept("doc:d1#view@user:ann {}", many)
					if rev != many || value != want.Value || !sameCache(got, []impl.Kept{want, cache[0]}) {
						t.Errorf("least %d of Rev %d by a store of %d: got %d, %d, %s", least, kept, many, value, rev, cacheText(got))
					}
				}
			}
		}
	}
}

// The entry at each place of a cache of each size, new enough and too old, and one that is not there.
func TestPlacesOfAskKept(t *testing.T) {
	s, store := desks(), shelves()
	own := shelfKept("doc:d1#view@user:ann {}", 3)
	fresh := shelfKept("doc:d1#view@user:ann {}", 7)
	for many := range 20 {
		others := countedCache(many, 4)
		for at := range many + 1 {
			cache := slices.Insert(slices.Clone(others), at, own)
			if value, rev, got := impl.AskKept(s, store, cache, own.Ask, own.Given, 3); value != impl.No || rev != 3 || !sameCache(got, append([]impl.Kept{own}, others...)) {
				t.Errorf("entry %d of %d: got %d, %d, %s", at, many+1, value, rev, cacheText(got))
			}
			if value, rev, got := impl.AskKept(s, store, cache, own.Ask, own.Given, 4); value != impl.Yes || rev != 7 || !sameCache(got, append([]impl.Kept{fresh}, others...)) {
				t.Errorf("entry %d of %d, too old: got %d, %d, %s", at, many+1, value, rev, cacheText(got))
			}
		}
		if value, rev, got := impl.AskKept(s, store, others, own.Ask, own.Given, 0); value != impl.Yes || rev != 7 || !sameCache(got, append([]impl.Kept{fresh}, others...)) {
			t.Errorf("%d other entries: got %d, %d, %s", many, value, rev, cacheText(got))
		}
	}
}

func TestFullCaches(t *testing.T) {
	s, store := desks(), shelves()
	full := countedCache(impl.MaxCache, 4)
	fresh := shelfKept("doc:d1#view@user:ann {}", 7)
	// The last one goes where the ask is new.
	value, rev, got := impl.AskKept(s, store, full, fresh.Ask, fresh.Given, 0)
	if value != impl.Yes || rev != 7 || !sameCache(got, append([]impl.Kept{fresh}, full[:19]...)) {
		t.Errorf("a new ask: got %d, %d, %s", value, rev, cacheText(got))
	}
	if !impl.Honest(s, store, got) {
		t.Errorf("a new ask: want an honest cache")
	}
	// None goes where it is there already, be it too old: its older entry falls out.
	for at := range full {
		others := slices.Delete(slices.Clone(full), at, at+1)
		newer := full[at]
		newer.Rev = 7
		if value, rev, got := impl.AskKept(s, store, full, full[at].Ask, full[at].Given, 4); value != impl.No || rev != 4 || !sameCache(got, append([]impl.Kept{full[at]}, others...)) {
			t.Errorf("entry %d: got %d, %d, %s", at, value, rev, cacheText(got))
		}
		if value, rev, got := impl.AskKept(s, store, full, full[at].Ask, full[at].Given, 5); value != impl.No || rev != 7 || !sameCache(got, append([]impl.Kept{newer}, others...)) {
			t.Errorf("entry %d, too old: got %d, %d, %s", at, value, rev, cacheText(got))
		}
	}
	// So many asks of an empty cache leave the newest ones, the last asked first.
	var cache []impl.Kept
	for i := range 50 {
		_, _, cache = impl.AskKept(s, store, cache, askOf("doc:d1#view@user:u"+strconv.Itoa(1000+i)), recordValue(nil), 0)
		if len(cache) != min(i+1, 20) {
			t.Errorf("%d asks: got a cache of %d", i+1, len(cache))
		}
	}
	want := countedCache(50, 7)[30:]
	slices.Reverse(want)
	if !sameCache(cache, want) {
		t.Errorf("many asks: got %s", cacheText(cache))
	}
}

// A given of which each list is empty or none is the same.
func TestAskKeptByValuesOfGiven(t *testing.T) {
	s, store := desks(), shelves()
	for _, v := range goodValues() {
		if v.value.Kind != impl.ValueRecord {
			continue
		}
		a := askOf("doc:d1#view@user:ann")
		cache := sameAsWords(t, s, store, shelfCache(3), a, v.value, 7)
		if len(cache) == 0 || !sameValue(cache[0].Given, v.value) {
			t.Errorf("%.100s: got %.300s", v.text, cacheText(cache))
		}
		if again := sameAsWords(t, s, store, cache, a, v.value, 7); !sameCache(again, cache) {
			t.Errorf("%.100s, again: got %.300s", v.text, cacheText(again))
		}
	}
}

func TestAskKeptByAStoreOfNoBatches(t *testing.T) {
	s := desks()
	a := askOf("doc:d1#view@user:ann")
	for _, store := range [][][]impl.Write{nil, {}} {
		value, rev, cache := impl.AskKept(s, store, nil, a, recordValue(nil), 0)
		if value != impl.No || rev != 0 || !sameCache(cache, cacheOf("doc:d1#view@user:ann {} 0 no")) {
			t.Errorf("no batches: got %d, %d, %s", value, rev, cacheText(cache))
		}
		if !impl.Honest(s, store, cache) || !sameCache(impl.Freshen(s, store, cache), cache) || !sameCache(impl.Purge(s, store, cache, 0), cache) {
			t.Errorf("no batches: want the cache honest and fresh")
		}
		if value, rev, cache := impl.AskKept(s, store, cache, a, recordValue(nil), 1); value != -1 || rev != 0 || len(cache) != 0 {
			t.Errorf("no batches, least 1: got %d, %d, %s", value, rev, cacheText(cache))
		}
	}
}

func askAffected(t *testing.T, s impl.RelSchema, writes []impl.Write, want string) {
	t.Helper()
	if got := strataText(impl.Affected(s, writes)); got != want {
		t.Errorf("Affected by %s: got %q, want %q", writesText(writes), got, want)
	}
	if got := strataText(affectedByWords(s, writes)); got != want {
		t.Errorf("Affected by %s, by words: got %q, want %q", writesText(writes), got, want)
	}
}

func TestAffected(t *testing.T) {
	s := desks()
	for _, c := range []struct {
		writes []string
		want   string
	}{
		{nil, ""},
		{[]string{"touch doc:d1#owner@user:ann"}, "doc#owner:0 doc#edit:1 doc#read:1 doc#view:1"},
		{[]string{"create doc:d1#owner@user:ann"}, "doc#owner:0 doc#edit:1 doc#read:1 doc#view:1"},
		{[]string{"drop doc:d1#owner@user:ann"}, "doc#owner:0 doc#edit:1 doc#read:1 doc#view:1"},
		{[]string{"drop doc:d1#owner@user:ann[fresh:{now:@3}]"}, "doc#owner:0 doc#edit:1 doc#read:1 doc#view:1"},
		{[]string{"touch doc:d1#viewer@user:*"}, "doc#viewer:0 doc#read:1 doc#view:1"},
		{[]string{"touch doc:d1#banned@user:ann"}, "doc#banned:0 doc#edit:1 doc#read:1 doc#view:1"},
		// By way of arrows and of SubRels.
		{[]string{"touch doc:d1#folder@folder:f1"}, "doc#folder:0 doc#read:1 doc#view:1"},
		{[]string{"touch folder:f1#parent@folder:f1"}, "doc#folder:0 doc#viewer:0 doc#read:1 doc#view:1 folder#parent:0 folder#see:0"},
		{[]string{"touch folder:f1#owner@user:ann"}, "doc#folder:0 doc#viewer:0 doc#read:1 doc#view:1 folder#owner:0 folder#see:0"},
		{[]string{"touch group:g#member@group:g#member"}, "doc#banned:0 doc#folder:0 doc#viewer:0 doc#edit:1 doc#read:1 doc#view:1 folder#owner:0 folder#see:0 group#member:0"},
		// Each once, in the order of StrataOf, however the writes come.
		{[]string{"touch doc:d1#owner@user:ann", "drop doc:d1#owner@user:ann", "create doc:d2#owner@user:bob"}, "doc#owner:0 doc#edit:1 doc#read:1 doc#view:1"},
		{[]string{"touch folder:f1#parent@folder:f1", "touch doc:d1#owner@user:ann"}, "doc#folder:0 doc#owner:0 doc#viewer:0 doc#edit:1 doc#read:1 doc#view:1 folder#parent:0 folder#see:0"},
		{[]string{"touch doc:d1#owner@user:ann", "touch folder:f1#parent@folder:f1"}, "doc#folder:0 doc#owner:0 doc#viewer:0 doc#edit:1 doc#read:1 doc#view:1 folder#parent:0 folder#see:0"},
		{[]string{"touch group:g#member@user:ann", "touch folder:f1#parent@folder:f1", "touch doc:d1#owner@user:ann"}, strataText(impl.StrataOf(s))},
		// What is asked for is not done.
		{[]string{"must doc:d1#owner@user:ann"}, ""},
		{[]string{"mustnot doc:d1#owner@user:ann"}, ""},
		{[]string{"touch doc:d1#owner@user:ann", "must doc:d1#owner@user:ann"}, ""},
		{[]string{"mustnot doc:d1#owner@user:ann", "touch doc:d1#owner@user:ann"}, ""},
		// Tuples that are not good.
		{[]string{"touch doc:d1#owner@user:*"}, ""},
		{[]string{"touch doc:d1#view@user:ann"}, ""},
		{[]string{"touch doc:d1#owner@user:ann", "touch doc:d1#owner@group:g#member"}, ""},
		{[]string{"drop other:d1#owner@user:ann", "touch doc:d1#owner@user:ann"}, ""},
		{[]string{"drop doc:d1#owner@user:ann[fresh:{now:3}]"}, ""},
	} {
		askAffected(t, s, writesOf(c.writes...), c.want)
	}
}

// What leans on each other in a loop is told once, whatever of it was written.
func TestAffectedInLoops(t *testing.T) {
	s := relOf("type a", " relation r: b#s", " relation t: a", " permission o = p", " permission p = q & r", " permission q = o + t->p", "type b", " relation s: a#r | b", " relation z: b")
	for text, want := range map[string]string{
		"touch a:1#r@b:1#s": "a#r:0 a#o:0 a#p:0 a#q:0 b#s:0",
		"touch b:1#s@a:1#r": "a#r:0 a#o:0 a#p:0 a#q:0 b#s:0",
		"touch a:1#t@a:1":   "a#t:0 a#o:0 a#p:0 a#q:0",
		"drop b:1#z@b:1":    "b#z:0",
	} {
		askAffected(t, s, writesOf(text), want)
	}
	askAffected(t, s, writesOf("touch b:1#z@b:1", "drop a:1#t@a:1"), "a#t:0 a#o:0 a#p:0 a#q:0 b#z:0")
	// A name that leans on itself, against another one, and by way of types that have no such name.
	s = relOf("type a", " relation r: a#r | b", " relation s: a:* | b#r", " permission p = s - r", " permission q = r->r + s", "type b", " relation r: a:*", "type c", " relation r: c | c#r")
	for text, want := range map[string]string{
		"touch a:1#r@b:1":   "a#r:0 a#p:1 a#q:0",
		"touch a:1#s@a:*":   "a#s:0 a#p:1 a#q:0",
		"touch b:1#r@a:*":   "a#s:0 a#p:1 a#q:0 b#r:0",
		"touch c:1#r@c:1":   "c#r:0",
		"touch c:1#r@c:1#r": "c#r:0",
	} {
		askAffected(t, s, writesOf(text), want)
	}
	// A long chain, of which the last one leans on the first one's relation.
	s = ladderRel()
	want := slices.DeleteFunc(impl.StrataOf(s), func(one impl.Stratum) bool { return one.Name == "parent" })
	askAffected(t, s, writesOf("touch folder:f#owner@user:ann"), strataText(want))
}

func TestAffectedIsWhatDependsOnTells(t *testing.T) {
	from := drawn()
	for range 300 {
		s := drawnGoodRel(from, false)
		var writes []impl.Write
		touched := map[impl.Stratum]int{}
		for range from.Intn(4) {
			w := impl.Write{Kind: 1 + from.Intn(3), Tuple: drawnTupleIn(from, s)}
			writes = append(writes, w)
			for _, one := range impl.DependsOn(s, w.Tuple.Type, w.Tuple.Rel) {
				touched[one]++
			}
		}
		want := slices.DeleteFunc(impl.StrataOf(s), func(one impl.Stratum) bool { return touched[one] == 0 })
		askAffected(t, s, writes, strataText(want))
	}
	s := fullRel()
	for _, typ := range []string{"t10", "t17", "t21"} {
		for _, rel := range []string{"r10", "r11", "r21"} {
			at := slices.IndexFunc(s.Types, func(t impl.RelType) bool { return t.Name == typ })
			own := s.Types[at].Relations[slices.IndexFunc(s.Types[at].Relations, func(r impl.Relation) bool { return r.Name == rel })]
			k := own.Subjects[0]
			x := impl.Tuple{Type: typ, Id: "x", Rel: rel, SubType: k.Type, SubId: "y", SubRel: k.Rel}
			if got, want := impl.Affected(s, []impl.Write{{Kind: 1, Tuple: x}}), impl.DependsOn(s, typ, rel); len(got) == 0 || !slices.Equal(got, want) {
				t.Errorf("%s#%s of a full schema: got %d names, want %d", typ, rel, len(got), len(want))
			}
		}
	}
}

func TestAffectedByManyWrites(t *testing.T) {
	s := desks()
	const want = "doc#owner:0 doc#edit:1 doc#read:1 doc#view:1"
	for _, many := range []int{1, 30, 31, 151, 300, 999, 1000} {
		if got := strataText(impl.Affected(s, writesWith(impl.WriteDrop, countedTuples(0, many)))); got != want {
			t.Errorf("%d writes: got %q", many, got)
		}
	}
	for _, many := range []int{1001, 1002, 5000} {
		if got := impl.Affected(s, writesWith(impl.WriteDrop, countedTuples(0, many))); len(got) != 0 {
			t.Errorf("%d writes: got %q", many, strataText(got))
		}
	}
	// The first and the last one count as well.
	for _, at := range []int{0, 500, 999} {
		writes := writesWith(impl.WriteTouch, countedTuples(0, 1000))
		writes[at] = writeOf("touch doc:d1#viewer@user:ann")
		if got := strataText(impl.Affected(s, writes)); got != "doc#owner:0 doc#viewer:0 doc#edit:1 doc#read:1 doc#view:1" {
			t.Errorf("another write at %d: got %q", at, got)
		}
		for _, kind := range append(badKinds(), impl.WriteMust, impl.WriteMustNot) {
			writes[at].Kind = kind
			if got := impl.Affected(s, writes); len(got) != 0 {
				t.Errorf("kind %d at %d: got %q", kind, at, strataText(got))
			}
		}
		writes[at] = writeOf("touch doc:d1#viewer@user:ann#member")
		if got := impl.Affected(s, writes); len(got) != 0 {
			t.Errorf("no good tuple at %d: got %q", at, strataText(got))
		}
	}
}

func TestAffectedByNoGoodWrites(t *testing.T) {
	s := stores()
	good := tupleOf(annOwns)
	for kind := -1; kind <= 7; kind++ {
		got := impl.Affected(s, []impl.Write{{Kind: kind, Tuple: good}})
		if (strataText(got) == "doc#owner:0 doc#view:0 folder#part:0") != isBetween(kind, 1, 3) || (len(got) > 0) != isBetween(kind, 1, 3) {
			t.Errorf("kind %d: got %q", kind, strataText(got))
		}
	}
	for i, bad := range unfitTuples() {
		for kind := 1; kind <= 3; kind++ {
			for _, writes := range [][]impl.Write{{{Kind: kind, Tuple: bad}}, {{Kind: kind, Tuple: good}, {Kind: kind, Tuple: bad}}, {{Kind: kind, Tuple: bad}, {Kind: kind, Tuple: good}}} {
				if got := impl.Affected(s, writes); len(got) != 0 {
					t.Errorf("unfit tuple %d, kind %d: got %q", i, kind, strataText(got))
				}
			}
		}
	}
	for i, bad := range badRels() {
		for _, writes := range [][]impl.Write{nil, writesOf("touch a:a#r@a:a"), writesOf("touch " + annOwns)} {
			if got := impl.Affected(bad, writes); len(got) != 0 {
				t.Errorf("bad schema %d: got %q", i, strataText(got))
			}
		}
	}
}

// Each entry by so many batches of shelves, with the Rev that it has then.
func TestFreshen(t *testing.T) {
	s := desks()
	for _, c := range []struct {
		many int
		kept string
		want int
	}{
		// Nothing was written, or something of another relation.
		{1, "doc:d1#view@user:ann {} 1 yes", 1},
		{2, "doc:d1#viewer@user:ann {} 1 yes", 2},
		{2, "group:g1#member@user:ann {} 1 yes", 2},
		{2, "folder:f1#see@user:cy {} 1 no", 2},
		{2, "doc:d1#banned@user:ann {} 1 no", 2},
		{3, "doc:d1#owner@user:bob {} 2 maybe", 3},
		{4, "doc:d1#viewer@user:ann {} 2 yes", 2},
		{4, "group:g1#member@user:ann {} 1 yes", 4},
		{6, "doc:d1#view@user:ann {} 5 no", 6},
		// The relation itself.
		{1, "group:g1#member@user:ann {} 0 no", 0},
		{1, "doc:d1#viewer@user:ann {} 0 no", 0},
		{1, "group:g1#member@user:zed {} 0 no", 0},
		{1, "group:g9#member@user:ann {} 0 no", 0},
		{1, "doc:d1#owner@user:ann {} 0 no", 1},
		{2, "doc:d1#owner@user:bob {} 1 no", 1},
		{2, "doc:d1#view@user:ann {} 1 yes", 1},
		{3, "doc:d1#banned@user:ann {} 2 no", 2},
		{3, "doc:d1#view@user:ann {} 2 yes", 2},
		{3, "doc:d1#edit@user:bob {} 2 maybe", 2},
		// A group's relation, and an arrow's, its own and that of its end.
		{5, "doc:d1#viewer@user:ann {} 4 yes", 4},
		{5, "doc:d1#view@user:ann {} 4 yes", 4},
		{5, "doc:d1#banned@user:ann {} 4 no", 4},
		{5, "folder:f1#see@user:cy {} 4 yes", 4},
		{5, "folder:f1#parent@user:cy {} 4 no", 5},
		{5, "doc:d1#owner@user:bob {} 4 maybe", 5},
		{4, "doc:d1#folder@folder:f2 {} 3 no", 3},
		{4, "doc:d1#view@user:cy {} 3 no", 3},
		{4, "folder:f2#see@user:cy {} 3 no", 3},
		{4, "folder:f1#owner@user:cy {} 3 yes", 4},
		{4, "doc:d1#owner@user:bob {} 3 maybe", 4},
		// What was changed and changed back.
		{4, "doc:d1#banned@user:ann {} 2 no", 4},
		{4, "doc:d1#banned@user:ann {} 3 yes", 3},
		{7, "group:g1#member@user:ann {} 1 yes", 7},
		{7, "group:g1#member@user:ann {} 4 yes", 7},
		{7, "group:g1#member@user:ann {} 5 no", 5},
		{7, "group:g1#member@user:ann {} 6 no", 6},
		{7, "doc:d1#view@user:ann {} 4 yes", 7},
		{7, "doc:d1#view@user:ann {} 3 no", 3},
		{7, "doc:d1#edit@user:bob {} 2 maybe", 7},
		// At the newest revision already.
		{7, "doc:d1#view@user:ann {} 7 yes", 7},
		{5, "group:g1#member@user:ann {} 5 no", 5},
		{0, "doc:d1#view@user:ann {} 0 no", 0},
		// What is not honest is called fresh as well.
		{2, "doc:d1#viewer@user:ann {} 1 maybe", 2},
		{7, "doc:d1#view@user:ann {} 4 no", 7},
	} {
		cache, store := cacheOf(c.kept), shelves()[:c.many]
		want := slices.Clone(cache)
		want[0].Rev = c.want
		if got := impl.Freshen(s, store, cache); !sameCache(got, want) || !sameCache(freshenByWords(s, store, cache), want) {
			t.Errorf("Freshen of %s by a store of %d: got %s", c.kept, c.many, cacheText(got))
		}
	}
}

// All entries of one cache, each at its own revision, keep their order and their values.
func TestFreshenOfManyEntries(t *testing.T) {
	s := desks()
	for many := range len(shelves()) + 1 {
		store := shelves()[:many]
		for first := 0; first+20 <= len(shelfAsks()); first++ {
			var cache []impl.Kept
			for i, text := range shelfAsks()[first : first+20] {
				cache = append(cache, shelfKept(text, (i*3+first)%(many+1)))
			}
			got := impl.Freshen(s, store, cache)
			if !sameCache(got, freshenByWords(s, store, cache)) || !impl.Honest(s, store, got) {
				t.Errorf("Freshen of %s by a store of %d: got %s", cacheText(cache), many, cacheText(got))
			}
			if again := impl.Freshen(s, store, got); !sameCache(again, got) {
				t.Errorf("Freshen again of %s: got %s", cacheText(got), cacheText(again))
			}
		}
	}
	if got := impl.Freshen(s, shelves(), nil); len(got) != 0 {
		t.Errorf("Freshen of an empty cache: got %s", cacheText(got))
	}
}

// Between two revisions may lie more writes than one batch has, of caveats alone too.
func TestFreshenByChangesOfCaveats(t *testing.T) {
	s := desks()
	store := [][]impl.Write{writesOf("touch doc:d1#owner@user:bob[fresh:{}]"), writesOf("touch doc:d1#owner@user:bob[fresh:{now:@3}]"), writesOf("touch doc:d1#owner@user:bob"), writesOf("touch doc:d1#owner@user:bob"), writesOf("drop doc:d1#owner@user:bob", "create doc:d1#owner@user:bob[fresh:{}]")}
	values := []string{"no", "maybe", "yes", "yes", "yes", "maybe"}
	for many := range len(store) + 1 {
		for rev := range many + 1 {
			cache := cacheOf("doc:d1#owner@user:bob {} " + strconv.Itoa(rev) + " " + values[rev])
			// Only these have the same tuples.
			fresh := rev == many || rev == 1 && many == 5 || rev == 3 && many == 4
			want := slices.Clone(cache)
			if fresh {
				want[0].Rev = many
			}
			if got := impl.Freshen(s, store[:many], cache); !sameCache(got, want) {
				t.Errorf("Rev %d by a store of %d: got %s", rev, many, cacheText(got))
			}
		}
	}
	var full [][]impl.Write
	for i := range 5 {
		full = append(full, writesWith(impl.WriteCreate, countedTuples(30*i, 30)))
	}
	for i := range 5 {
		full = append(full, writesWith(impl.WriteDrop, countedTuples(30*i, 30)))
	}
	for i := range 5 {
		full = append(full, writesWith(impl.WriteCreate, countedTuples(1000+30*i, 30)))
	}
	cache := cacheOf("doc:d10000#owner@user:ann {} 5 yes", "doc:d10000#viewer@user:ann {} 5 no", "doc:d10000#edit@user:ann {} 0 no", "folder:f#see@user:ann {} 0 no")
	if got := cacheText(impl.Freshen(s, full, cache)); got != "doc:d10000#owner@user:ann {} 5 yes; doc:d10000#viewer@user:ann {} 15 no; doc:d10000#edit@user:ann {} 0 no; folder:f#see@user:ann {} 15 no" {
		t.Errorf("300 changes: got %s", got)
	}
	if got := cacheText(impl.Freshen(s, full[:10], cache)); got != "doc:d10000#owner@user:ann {} 5 yes; doc:d10000#viewer@user:ann {} 10 no; doc:d10000#edit@user:ann {} 10 no; folder:f#see@user:ann {} 10 no" {
		t.Errorf("all taken away again: got %s", got)
	}
}

func TestPurge(t *testing.T) {
	s, store := desks(), shelves()
	cache := shelfCache(20)
	for many := 7; many >= 0; many-- {
		var own []impl.Kept
		for _, k := range cache {
			if k.Rev <= many {
				own = append(own, k)
			}
		}
		for _, window := range []int{0, 1, 2, 3, 4, 5, 6, 7, 8, 9, 60, 999, 1000} {
			var want []impl.Kept
			for _, k := range own {
				if k.Rev >= many-window {
					want = append(want, k)
				}
			}
			if got := impl.Purge(s, store[:many], own, window); !sameCache(got, want) || !sameCache(purgeByWords(s, store[:many], own, window), want) {
				t.Errorf("window %d by a store of %d: got %s", window, many, cacheText(got))
			}
		}
		for _, window := range []int{math.MinInt, -1000, -1, 1001, 1002, math.MaxInt} {
			if got := impl.Purge(s, store[:many], own, window); len(got) != 0 {
				t.Errorf("window %d by a store of %d: got %s", window, many, cacheText(got))
			}
		}
	}
}

// Just at the edge of the window, one below it and one above it.
func TestPurgeAtItsEdge(t *testing.T) {
	s, store := desks(), shelves()
	for window := range 9 {
		for rev := range 8 {
			cache := []impl.Kept{countedCache(1, 7)[0], shelfKept("doc:d1#view@user:ann {}", rev), shelfKept("doc:d1#view@user:bob {}", 7)}
			want := cache
			if rev < 7-window {
				want = []impl.Kept{cache[0], cache[2]}
			}
			if got := impl.Purge(s, store, cache, window); !sameCache(got, want) {
				t.Errorf("Rev %d, window %d: got %s", rev, window, cacheText(got))
			}
		}
	}
	full := make([][]impl.Write, impl.MaxBatches)
	for _, rev := range []int{0, 1, 29, 30, 31, 59, 60} {
		for _, window := range []int{0, 1, 29, 30, 31, 59, 60, 61} {
			if got := impl.Purge(s, full, countedCache(3, rev), window); (len(got) == 3) != (rev >= 60-window) || len(got)%3 != 0 {
				t.Errorf("Rev %d of a full store, window %d: got %d entries", rev, window, len(got))
			}
		}
	}
	// Those that go may stand first, last, or next to each other.
	for bits := range 1 << 5 {
		var cache, want []impl.Kept
		for i, k := range countedCache(5, 3) {
			if bits>>i&1 == 1 {
				k.Rev = 4
				want = append(want, k)
			}
			cache = append(cache, k)
		}
		if got := impl.Purge(s, store, cache, 3); !sameCache(got, want) {
			t.Errorf("%05b: got %s", bits, cacheText(got))
		}
	}
}

// updateCase is a list with writes and what FactsOf tells for the ask afterwards.
type updateCase struct {
	list   []string
	writes []string
	ask    string
	want   string
}

func TestUpdateFacts(t *testing.T) {
	s := desks()
	const owns, sees, member = "doc:d1#owner@user:ann", "doc:d1#viewer@group:g#member", "group:g#member@user:ann"
	for i, c := range []updateCase{
		{nil, nil, "doc:d1#view@user:ann", ""},
		{[]string{owns}, nil, "doc:d1#view@user:ann", "doc:d1#edit=yes doc:d1#owner=yes doc:d1#read=yes doc:d1#view=yes"},
		{nil, []string{"create " + owns}, "doc:d1#view@user:ann", "doc:d1#edit=yes doc:d1#owner=yes doc:d1#read=yes doc:d1#view=yes"},
		{nil, []string{"create " + owns}, "doc:d1#view@user:bob", ""},
		{[]string{owns}, []string{"drop " + owns}, "doc:d1#view@user:ann", ""},
		{[]string{owns}, []string{"drop " + owns, "create doc:d2#owner@user:ann"}, "doc:d1#view@user:ann", "doc:d2#edit=yes doc:d2#owner=yes doc:d2#read=yes doc:d2#view=yes"},
		{[]string{owns}, []string{"drop " + owns, "create " + owns}, "doc:d1#view@user:ann", "doc:d1#edit=yes doc:d1#owner=yes doc:d1#read=yes doc:d1#view=yes"},
		{[]string{owns}, []string{"must " + owns}, "doc:d1#view@user:ann", "doc:d1#edit=yes doc:d1#owner=yes doc:d1#read=yes doc:d1#view=yes"},
		{[]string{owns}, []string{"mustnot " + member, "touch " + sees}, "doc:d1#view@group:g#member", "doc:d1#read=yes doc:d1#view=yes doc:d1#viewer=yes"},
		// What is taken away gives more, what is put in less.
		{[]string{owns}, []string{"create doc:d1#banned@user:*"}, "doc:d1#view@user:ann", "doc:d1#banned=yes doc:d1#owner=yes"},
		{[]string{"doc:d1#banned@user:*", owns}, []string{"drop doc:d1#banned@user:*"}, "doc:d1#view@user:ann", "doc:d1#edit=yes doc:d1#owner=yes doc:d1#read=yes doc:d1#view=yes"},
		{[]string{owns}, []string{"create doc:d1#banned@user:ann[fresh:{}]"}, "doc:d1#view@user:ann", "doc:d1#banned=maybe doc:d1#edit=maybe doc:d1#owner=yes doc:d1#read=maybe doc:d1#view=maybe"},
		// Caveats.
		{[]string{owns}, []string{"touch " + owns + "[fresh:{}]"}, "doc:d1#view@user:ann", "doc:d1#edit=maybe doc:d1#owner=maybe doc:d1#read=maybe doc:d1#view=maybe"},
		{[]string{owns + "[fresh:{}]"}, []string{"touch " + owns + "[fresh:{now:@3}]"}, "doc:d1#view@user:ann", "doc:d1#edit=yes doc:d1#owner=yes doc:d1#read=yes doc:d1#view=yes"},
		{[]string{owns + "[fresh:{}]"}, []string{"touch " + owns + "[fresh:{now:@10}]"}, "doc:d1#view@user:ann", ""},
		// Groups, and loops of them and of folders.
		{[]string{sees, member}, []string{"drop " + member}, "doc:d1#view@user:ann", ""},
		{[]string{sees}, []string{"create " + member}, "doc:d1#view@user:ann", "doc:d1#read=yes doc:d1#view=yes doc:d1#viewer=yes group:g#member=yes"},
		{[]string{"group:g#member@group:h#member", "group:h#member@group:g#member", "group:h#member@user:ann"}, []string{"drop group:h#member@user:ann"}, "group:g#member@user:ann", ""},
		{[]string{"group:g#member@group:h#member", "group:h#member@group:g#member", "group:h#member@user:ann"}, []string{"drop group:g#member@group:h#member"}, "group:g#member@user:ann", "group:h#member=yes"},
		{[]string{"group:g#member@group:h#member", "group:h#member@user:ann"}, []string{"touch group:h#member@group:g#member"}, "group:g#member@user:ann", "group:g#member=yes group:h#member=yes"},
		{[]string{"folder:f#owner@user:ann", "folder:f#parent@folder:g", "folder:g#parent@folder:f"}, []string{"drop folder:f#owner@user:ann"}, "folder:f#see@user:ann", ""},
		{[]string{"folder:f#owner@user:ann", "folder:f#parent@folder:g", "folder:g#parent@folder:f"}, []string{"drop folder:g#parent@folder:f"}, "folder:f#see@user:ann", "folder:f#owner=yes folder:f#see=yes"},
		{[]string{"folder:f#parent@folder:g"}, []string{"touch folder:g#owner@user:ann[fresh:{}]"}, "folder:f#see@user:ann", "folder:f#see=maybe folder:g#owner=maybe folder:g#see=maybe"},
		// Writes that can't be done.
		{[]string{owns}, []string{"create " + owns}, "doc:d1#view@user:ann", ""},
		{[]string{owns}, []string{"drop " + member}, "doc:d1#view@user:ann", ""},
		{[]string{owns}, []string{"must " + member}, "doc:d1#view@user:ann", ""},
		{[]string{owns}, []string{"mustnot " + owns}, "doc:d1#view@user:ann", ""},
		{[]string{owns}, []string{"touch " + owns, "touch doc:d1#owner@user:*"}, "doc:d1#view@user:ann", ""},
		// Lists that are not good.
		{[]string{member, owns}, nil, "doc:d1#view@user:ann", ""},
		{[]string{owns, owns}, nil, "doc:d1#view@user:ann", ""},
	} {
		list, writes, a := tuplesOf(c.list...), writesOf(c.writes...), askOf(c.ask)
		facts := impl.FactsOf(s, list, a, recordValue(nil))
		if got := impl.UpdateFacts(s, list, a, recordValue(nil), facts, writes); factsText(got) != c.want || factsText(updateByWords(s, list, a, recordValue(nil), writes)) != c.want {
			t.Errorf("case %d, %s by %s: got %s", i, c.list, c.writes, factsText(got))
		}
		for _, other := range append(badFactLists(), nil, factsOf("doc:d1#view=maybe"), slices.Repeat(facts, 3)) {
			if got := impl.UpdateFacts(s, list, a, recordValue(nil), other, writes); factsText(got) != c.want {
				t.Errorf("case %d with other facts, %.200s: got %s", i, shown(other), factsText(got))
			}
		}
	}
}

func TestUpdateFactsByWhatIsGiven(t *testing.T) {
	s, list, a := desks(), tuplesOf("doc:d1#banned@user:ann[fresh:{}]"), askOf("doc:d1#view@user:ann")
	writes := writesOf("create doc:d1#owner@user:ann[fresh:{}]", "create doc:d2#owner@user:ann[fresh:{}]")
	for given, want := range map[string]string{
		"{}":        "doc:d1#banned=maybe doc:d1#edit=maybe doc:d1#owner=maybe doc:d1#read=maybe doc:d1#view=maybe doc:d2#edit=maybe doc:d2#owner=maybe doc:d2#read=maybe doc:d2#view=maybe",
		"{now:@3}":  "doc:d1#banned=yes doc:d1#owner=yes doc:d2#edit=yes doc:d2#owner=yes doc:d2#read=yes doc:d2#view=yes",
		"{now:@10}": "",
	} {
		if got := impl.UpdateFacts(s, list, a, givenOf(given), impl.FactsOf(s, list, a, givenOf(given)), writes); factsText(got) != want {
			t.Errorf("given %s: got %s", given, factsText(got))
		}
	}
}

// The limits of ApplyWrites hold: so many writes, and so many tuples in the end.
func TestUpdateFactsAtItsLimits(t *testing.T) {
	s, a := desks(), askOf("doc:d1#view@user:ann")
	for _, c := range []struct {
		list, first, writes, want int
	}{
		{0, 0, 30, 30}, {0, 0, 31, 0}, {120, 120, 30, 150}, {121, 121, 30, 0}, {150, 0, 30, 150}, {150, 120, 30, 150}, {150, 121, 30, 0}, {150, 150, 0, 150}, {151, 0, 0, 0},
	} {
		got := impl.UpdateFacts(s, countedTuples(0, c.list), a, recordValue(nil), nil, writesWith(impl.WriteTouch, countedTuples(c.first, c.writes)))
		if len(got) != 4*c.want {
			t.Errorf("%d writes on %d tuples: got %d facts", c.writes, c.list, len(got))
		}
	}
}

// Each two lists out of a few tuples, the one made of the other: what is fresh is right, and facts are those of the new list.
func TestAllSmallChanges(t *testing.T) {
	s := relOf("caveat c(n num): n == 1", "type g", " relation m: g#m | u | u with c", " relation n: g", " permission v = m + n->m", " permission w = v - n", "type u")
	texts := []string{"g:a#m@g:b#m", "g:a#m@u:u[c:{}]", "g:a#n@g:b", "g:b#m@g:a#m", "g:b#m@u:u"}
	var lists [][]impl.Tuple
	for bits := range 1 << len(texts) {
		var some []string
		for i, text := range texts {
			if bits>>i&1 == 1 {
				some = append(some, text)
			}
		}
		lists = append(lists, tuplesOf(some...))
	}
	asks := []string{"g:a#v@u:u", "g:a#w@u:u", "g:b#m@u:u", "g:a#n@g:b", "g:a#w@g:b", "g:b#v@g:a#m"}
	for _, before := range lists {
		for _, after := range lists {
			writes := changesByWords(before, after)
			store := [][]impl.Write{writesWith(impl.WriteCreate, before), writes}
			var cache []impl.Kept
			for _, ask := range asks {
				value, rev, kept := impl.AskKept(s, store[:1], cache, askOf(ask), recordValue(nil), 1)
				if rev != 1 || value != impl.Check(s, before, askOf(ask), recordValue(nil)) {
					t.Errorf("%s by %s: got %d, %d", ask, tuplesText(before), value, rev)
				}
				cache = kept
			}
			fresh := impl.Freshen(s, store, cache)
			for i, k := range fresh {
				affected := slices.ContainsFunc(affectedByWords(s, writes), func(one impl.Stratum) bool { return one.Type == k.Ask.Type && one.Name == k.Ask.Name })
				if affected != (k.Rev == 1) || !affected && k.Value != impl.Check(s, after, k.Ask, k.Given) || k.Value != cache[i].Value {
					t.Errorf("from %s to %s: got %s", tuplesText(before), tuplesText(after), cacheText([]impl.Kept{k}))
				}
			}
			for _, ask := range asks[:2] {
				a := askOf(ask)
				facts := impl.FactsOf(s, before, a, recordValue(nil))
				if got, want := impl.UpdateFacts(s, before, a, recordValue(nil), facts, writes), impl.FactsOf(s, after, a, recordValue(nil)); !slices.Equal(got, want) {
					t.Errorf("%s from %s to %s: got %s, want %s", ask, tuplesText(before), tuplesText(after), factsText(got), factsText(want))
				}
			}
		}
	}
}

// drawnCache is an honest cache by the store, of so many entries at most.
func drawnCache(from *rand.Rand, s impl.RelSchema, store [][]impl.Write, many int) []impl.Kept {
	var cache []impl.Kept
	all := storeByWords(s, store)
	for range many {
		k := impl.Kept{Ask: drawnAskOf(from, s, all[len(all)-1]), Given: drawnGivenIn(from, s), Rev: from.Intn(len(all))}
		k.Value = checkByWords(s, all[k.Rev], k.Ask, k.Given)
		if !slices.ContainsFunc(cache, func(other impl.Kept) bool { return isKeptOf(other, k.Ask, k.Given) }) {
			cache = append(cache, k)
		}
	}
	return cache
}

func TestDrawnCaches(t *testing.T) {
	from := drawn()
	hits, olds, fresh, stale, wrong := 0, 0, 0, 0, 0
	for range 250 {
		s := drawnGoodRel(from, false)
		store := drawnStoreIn(from, s, 1+from.Intn(6))
		cache := drawnCache(from, s, store, 1+from.Intn(8))
		if !impl.Honest(s, store, cache) || !impl.GoodCache(s, store, cache) {
			t.Errorf("%s in %s: want it honest", cacheText(cache), relTextByWords(s))
		}
		for range 4 {
			a, given, least := drawnAskOf(from, s, nil), drawnGivenIn(from, s), from.Intn(len(store)+1)
			if one := oneOf(from, cache); from.Intn(3) > 0 {
				a, given = one.Ask, one.Given
			}
			value, rev, kept := impl.AskKept(s, store, cache, a, given, least)
			if rev < least || rev > len(store) || value != impl.Check(s, impl.TuplesAt(s, store, rev), a, given) {
				t.Errorf("%+v, least %d: got %d at %d", a, least, value, rev)
			}
			if rev < len(store) {
				hits++
			} else if slices.ContainsFunc(cache, func(k impl.Kept) bool { return isKeptOf(k, a, given) }) {
				olds++
			}
			if !impl.Honest(s, store, kept) {
				t.Errorf("AskKept of %s: %s is not honest", cacheText(cache), cacheText(kept))
			}
			sameAsWords(t, s, store, cache, a, given, least)
		}
		got := impl.Freshen(s, store, cache)
		if !sameCache(got, freshenByWords(s, store, cache)) || !impl.Honest(s, store, got) {
			t.Errorf("Freshen of %s in %s: got %s", cacheText(cache), relTextByWords(s), cacheText(got))
		}
		newest := impl.TuplesAt(s, store, len(store))
		for i, k := range cache {
			switch {
			case k.Rev < len(store) && got[i].Rev == len(store):
				fresh++
			case k.Rev < len(store):
				stale++
				if k.Value != impl.Check(s, newest, k.Ask, k.Given) {
					wrong++
				}
			}
		}
		window := from.Intn(len(store) + 2)
		if got := impl.Purge(s, store, cache, window); !sameCache(got, purgeByWords(s, store, cache, window)) || !impl.Honest(s, store, got) {
			t.Errorf("Purge of %s by %d: got %s", cacheText(cache), window, cacheText(got))
		}
	}
	if hits < 100 || olds < 50 || fresh < 50 || stale < 100 || wrong < 20 {
		t.Errorf("what was drawn: %d hits, %d too old, %d made fresh, %d stale, %d of them wrong", hits, olds, fresh, stale, wrong)
	}
}

// A cache that lives along a store: asked, freshened and purged while batches come, it is honest all the time.
func TestCachesStayHonestAsBatchesCome(t *testing.T) {
	from := drawn()
	for range 25 {
		s := drawnGoodRel(from, false)
		var store [][]impl.Write
		var list []impl.Tuple
		var cache []impl.Kept
		for range 12 {
			var batch []impl.Write
			batch, list = drawnBatchIn(from, s, list, 4)
			next, err := impl.AcceptBatch(s, store, batch)
			if err != 0 {
				t.Fatalf("%s: got Err %d", writesText(batch), err)
			}
			store = next
			for range 3 {
				a, given, least := drawnAskOf(from, s, list), drawnGivenIn(from, s), from.Intn(len(store)+1)
				value, rev, kept := impl.AskKept(s, store, cache, a, given, least)
				if rev < least || value != impl.Check(s, impl.TuplesAt(s, store, rev), a, given) || len(kept) == 0 {
					t.Errorf("%+v, least %d: got %d at %d", a, least, value, rev)
				}
				cache = kept
			}
			switch from.Intn(4) {
			case 0:
				cache = impl.Freshen(s, store, cache)
			case 1:
				cache = impl.Purge(s, store, cache, 5)
			}
			if !impl.Honest(s, store, cache) {
				t.Fatalf("%s is not honest", cacheText(cache))
			}
		}
	}
}

func TestDrawnUpdates(t *testing.T) {
	from := drawn()
	changed := 0
	for range 400 {
		s := drawnGoodRel(from, false)
		list := drawnTuplesIn(from, s, 2+from.Intn(10))
		writes, after := drawnBatchIn(from, s, list, 6)
		a, given := drawnAskOf(from, s, after), drawnGivenIn(from, s)
		facts := impl.FactsOf(s, list, a, given)
		got, want := impl.UpdateFacts(s, list, a, given, facts, writes), factsByWords(s, after, a, given)
		if !slices.Equal(got, want) || !slices.Equal(got, impl.FactsOf(s, impl.ApplyWrites(s, list, writes).Tuples, a, given)) {
			t.Errorf("%s by %s: got %s, want %s", tuplesText(list), writesText(writes), factsText(got), factsText(want))
		}
		if !slices.Equal(got, facts) {
			changed++
		}
		other := changedFacts(from, s, facts, objectsByWords(list, a))
		if again := impl.UpdateFacts(s, list, a, given, other, writes); !slices.Equal(again, want) {
			t.Errorf("%s with other facts, %s: got %s", tuplesText(list), factsText(other), factsText(again))
		}
	}
	if changed < 100 {
		t.Errorf("facts changed %d times", changed)
	}
}

// Facts that uphold each other are no answer of FactsOf, and stay none.
func TestUpdateFactsOfSupportedOnes(t *testing.T) {
	s := desks()
	list := tuplesOf("group:g#member@group:h#member", "group:h#member@group:g#member")
	a, facts := askOf("group:g#member@user:ann"), factsOf("group:g#member=yes group:h#member=yes")
	if !impl.Supported(s, list, a, recordValue(nil), facts) {
		t.Fatalf("want them supported")
	}
	for _, writes := range [][]impl.Write{nil, writesOf("touch doc:d#owner@user:bob"), writesOf("touch group:g#member@group:h#member")} {
		if got := impl.UpdateFacts(s, list, a, recordValue(nil), facts, writes); len(got) != 0 {
			t.Errorf("by %s: got %s", writesText(writes), factsText(got))
		}
	}
}

// A store at all its limits, with a cache at its own.
func TestCachesAtTheirLimits(t *testing.T) {
	s := desks()
	var store [][]impl.Write
	for i := range 5 {
		store = append(store, writesWith(impl.WriteCreate, chainedFolders(150)[30*i:30*i+30]))
	}
	for range impl.MaxBatches - 6 {
		store = append(store, nil)
	}
	store = append(store, append(writesWith(impl.WriteDrop, chainedFolders(150)[149:]), writeOf("create folder:f1149#owner@user:ann")))
	if len(store) != 60 || len(storeByWords(s, store)) != 61 {
		t.Fatalf("a full store: want a good one")
	}
	var cache []impl.Kept
	for i := range impl.MaxCache {
		value, rev, kept := impl.AskKept(s, store, cache, askOf("folder:f1"+strconv.Itoa(100+i)+"#see@user:ann"), recordValue(nil), 60)
		if value != impl.Yes || rev != 60 || len(kept) != i+1 {
			t.Fatalf("ask %d: got %d, %d, %d entries", i, value, rev, len(kept))
		}
		cache = kept
	}
	if !impl.Honest(s, store, cache) || impl.Honest(s, store, changedKept(cache, 19, func(k *impl.Kept) { k.Rev = 59 })) {
		t.Errorf("a full cache: want it honest at the newest revision alone")
	}
	old := countedCache(20, 5)
	if got := impl.Freshen(s, store, old); !sameCache(got, old) {
		t.Errorf("folders changed: got %s", cacheText(got))
	}
	if got := impl.Freshen(s, store[:59], old); !sameCache(got, countedCache(20, 59)) {
		t.Errorf("nothing changed: got %s", cacheText(got))
	}
	if got := impl.GoodCache(s, append(slices.Clone(store), nil), old); got {
		t.Errorf("one batch too many: want false")
	}
}

// What is told hangs on nothing but what was given: neither on maps nor on how goroutines run.
func TestCachesAnswerTheSameAgain(t *testing.T) {
	s, store, cache := desks(), shelves(), shelfCache(20)
	a, given := askOf("doc:d1#view@user:dan"), givenOf("{now:@3}")
	value, rev, kept := impl.AskKept(s, store, cache, a, given, 7)
	fresh, purged := impl.Freshen(s, store, cache), impl.Purge(s, store, cache, 3)
	for range 100 {
		again, rev2, kept2 := impl.AskKept(s, store, cache, a, given, 7)
		if again != value || rev2 != rev || !sameCache(kept2, kept) || !sameCache(impl.Freshen(s, store, cache), fresh) || !sameCache(impl.Purge(s, store, cache, 3), purged) || !impl.Honest(s, store, cache) {
			t.Fatalf("another answer to the same")
		}
	}
}

// isNotKept says whether all functions that take a store and a cache refuse them.
func isNotKept(s impl.RelSchema, store [][]impl.Write, cache []impl.Kept, a impl.Ask, given impl.Value) bool {
	value, rev, kept := impl.AskKept(s, store, cache, a, given, 0)
	return value == -1 && rev == 0 && len(kept) == 0 && !impl.GoodCache(s, store, cache) && !impl.Honest(s, store, cache) &&
		len(impl.Freshen(s, store, cache)) == 0 && len(impl.Purge(s, store, cache, 1000)) == 0
}

func TestCachesOfNoGoodOnes(t *testing.T) {
	s, store, cache := desks(), shelves(), shelfCache(5)
	a, given := askOf("doc:d1#view@user:ann"), recordValue(nil)
	for i, bad := range badCaches() {
		if !isNotKept(s, store, bad, a, given) {
			t.Errorf("bad cache %d, %.300s: want nothing", i, shown(bad))
		}
	}
	other, kept := stores(), cacheOf("doc:d1#view@user:ann {} 0 no")
	for i, bad := range badStores() {
		for _, cache := range [][]impl.Kept{nil, kept} {
			if !isNotKept(other, bad, cache, a, given) {
				t.Errorf("bad store %d: want nothing", i)
			}
		}
	}
	for i, bad := range badRels() {
		if !isNotKept(bad, nil, nil, a, given) || !isNotKept(bad, nil, kept, a, given) || !isNotKept(bad, store, cache, a, given) {
			t.Errorf("bad schema %d: want nothing", i)
		}
	}
	// Batches behind the last revision that is kept count as well.
	if !isNotKept(s, append(shelves(), writesOf("drop doc:d9#owner@user:ann")), cache, a, given) {
		t.Errorf("a last batch that can't be done: want nothing")
	}
}

func TestAskKeptOfNoGoodOnes(t *testing.T) {
	s, store, cache := desks(), shelves(), shelfCache(20)
	for i, bad := range badAsks() {
		if value, rev, kept := impl.AskKept(s, store, cache, bad, recordValue(nil), 0); value != -1 || rev != 0 || len(kept) != 0 {
			t.Errorf("bad ask %d, %.100s: got %d, %d", i, shown(bad), value, rev)
		}
	}
	for i, bad := range badGivens() {
		if value, rev, kept := impl.AskKept(s, store, cache, cache[0].Ask, bad, 0); value != -1 || rev != 0 || len(kept) != 0 {
			t.Errorf("bad given %d, %.100s: got %d, %d", i, shown(bad), value, rev)
		}
	}
	for _, least := range append(oddInts(), badRevs()...) {
		if value, rev, kept := impl.AskKept(s, store, cache, cache[0].Ask, cache[0].Given, least); !isBetween(least, 0, 7) && (value != -1 || rev != 0 || len(kept) != 0) {
			t.Errorf("least %d: got %d, %d", least, value, rev)
		}
	}
}

func TestUpdateFactsOfNoGoodOnes(t *testing.T) {
	s, list, a, given := stores(), tuplesOf(annOwns), askOf("doc:d1#view@user:ann"), recordValue(nil)
	facts := impl.FactsOf(s, list, a, given)
	writes := writesOf("touch " + groupSees)
	if got := impl.UpdateFacts(s, list, a, given, facts, writes); factsText(got) != "doc:d1#owner=yes doc:d1#view=yes" {
		t.Fatalf("what is good: got %s", factsText(got))
	}
	nothing := func(what string, s impl.RelSchema, list []impl.Tuple, a impl.Ask, given impl.Value, writes []impl.Write) {
		t.Helper()
		if got := impl.UpdateFacts(s, list, a, given, facts, writes); len(got) != 0 {
			t.Errorf("%s: got %s", what, factsText(got))
		}
	}
	for err, batches := range badBatches() {
		for i, batch := range batches {
			nothing("a batch with Err "+strconv.Itoa(err)+", "+strconv.Itoa(i), s, nil, a, given, batch)
			if len(batch) == 1 && err == 2 || len(batch) > 30 {
				nothing("on a list, a batch with Err "+strconv.Itoa(err)+", "+strconv.Itoa(i), s, list, a, given, batch)
			}
		}
	}
	for i, bad := range badTupleLists() {
		nothing("bad list "+strconv.Itoa(i), s, bad, a, given, nil)
		nothing("bad list "+strconv.Itoa(i), s, bad, a, given, writes)
	}
	for i, bad := range badGivens() {
		nothing("bad given "+strconv.Itoa(i), s, list, a, bad, writes)
	}
	for i, bad := range badAsks() {
		nothing("bad ask "+strconv.Itoa(i), desks(), list, bad, given, nil)
	}
	for i, bad := range badRels() {
		nothing("bad schema "+strconv.Itoa(i), bad, nil, a, given, nil)
		nothing("bad schema "+strconv.Itoa(i), bad, list, a, given, writes)
	}
}
