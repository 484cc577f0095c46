package tests

import (
	"regexp"
	"slices"
	"strings"

	"loop.example/g00036/impl"
)

// What the document says of chapter 5, worked out in other ways than the program's: names by patterns, steps by way of each name in turn, ways by trying all of them, nests of rules as sorted texts.

var groupName = regexp.MustCompile(`^[A-Z][a-zA-Z0-9_]{0,29}$`)
var otherName = regexp.MustCompile(`^[a-z_][a-zA-Z0-9_]{0,29}$`)

func goodNestByWords(n impl.Nest) bool {
	return groupName.MatchString(n.Group) && (groupName.MatchString(n.Member) || otherName.MatchString(n.Member))
}

// nestKey orders good nests as texts: no name has a byte as low as the one between.
func nestKey(n impl.Nest) string {
	return n.Group + " " + n.Member
}

func goodNestsByWords(list []impl.Nest) bool {
	last := ""
	for _, n := range list {
		if !goodNestByWords(n) || nestKey(n) <= last {
			return false
		}
		last = nestKey(n)
	}
	return len(list) <= 200
}

func sortedNests(list []impl.Nest) []impl.Nest {
	var keys []string
	for _, n := range list {
		keys = append(keys, nestKey(n))
	}
	slices.Sort(keys)
	var out []impl.Nest
	for _, key := range slices.Compact(keys) {
		group, member, _ := strings.Cut(key, " ")
		out = append(out, nest(group, member))
	}
	return out
}

// namesOf are all names of the nests, rising.
func namesOf(list []impl.Nest) []string {
	var names []string
	for _, n := range list {
		names = append(names, n.Group, n.Member)
	}
	slices.Sort(names)
	return slices.Compact(names)
}

// stepTable has, for each two numbers of names, the least steps from the one to the other, or 0: first by nests alone, then by way of each name in turn.
func stepTable(list []impl.Nest) ([]string, [][]int) {
	names := namesOf(list)
	table := make([][]int, len(names))
	for i := range table {
		table[i] = make([]int, len(names))
	}
	for _, n := range list {
		table[slices.Index(names, n.Group)][slices.Index(names, n.Member)] = 1
	}
	for by := range names {
		for from := range names {
			for to := range names {
				first, then, known := table[from][by], table[by][to], table[from][to]
				if first > 0 && then > 0 && (known == 0 || first+then < known) {
					table[from][to] = first + then
				}
			}
		}
	}
	return names, table
}

func reachByWords(list []impl.Nest) []impl.Reach {
	var index []impl.Reach
	names, table := stepTable(list)
	for from, group := range names {
		for to, member := range names {
			if steps := table[from][to]; steps > 0 {
				index = append(index, impl.Reach{Group: group, Member: member, Steps: steps})
			}
		}
	}
	return index
}

func membersByWords(index []impl.Reach, group string) []string {
	var out []string
	for _, r := range index {
		if r.Group == group && otherName.MatchString(r.Member) {
			out = append(out, r.Member)
		}
	}
	return out
}

func groupsByWords(index []impl.Reach, member string) []string {
	var out []string
	for _, r := range index {
		if r.Member == member {
			out = append(out, r.Group)
		}
	}
	return out
}

func loopsByWords(index []impl.Reach) []string {
	var out []string
	for _, r := range index {
		if r.Group == r.Member {
			out = append(out, r.Group)
		}
	}
	return out
}

func stepsByWords(index []impl.Reach, group string, member string) int {
	for _, r := range index {
		if r.Group == group && r.Member == member {
			return r.Steps
		}
	}
	return 0
}

// allWays are all ways of so many steps.
func allWays(list []impl.Nest, group string, member string, steps int) [][]string {
	var ways [][]string
	for _, n := range list {
		if n.Group != group || steps == 1 && n.Member != member {
			continue
		}
		if steps == 1 {
			ways = append(ways, []string{group, member})
			continue
		}
		for _, rest := range allWays(list, n.Member, member, steps-1) {
			ways = append(ways, slices.Insert(rest, 0, group))
		}
	}
	return ways
}

// wayByWords takes the index of the list to know how many steps to try.
func wayByWords(list []impl.Nest, index []impl.Reach, group string, member string) []string {
	steps := stepsByWords(index, group, member)
	if steps == 0 {
		return nil
	}
	return slices.MinFunc(allWays(list, group, member, steps), slices.Compare)
}

func addByWords(list []impl.Nest, n impl.Nest) []impl.Nest {
	return sortedNests(append(slices.Clone(list), n))
}

func dropByWords(list []impl.Nest, n impl.Nest) []impl.Nest {
	return slices.DeleteFunc(slices.Clone(list), func(m impl.Nest) bool { return m == n })
}

// ruleNestsByWords takes good arguments.
func ruleNestsByWords(s impl.DirSchema, entries []impl.Entry, rules []impl.GroupRule) []impl.Nest {
	var list []impl.Nest
	for _, r := range rules {
		for _, e := range entries {
			values := valuesByWords(e, "cn")
			if len(values) > 0 && otherName.MatchString(slices.Min(values)) && matchByWords(s, e, r.Filter) == impl.Yes {
				list = append(list, nest(r.Group, slices.Min(values)))
			}
		}
	}
	list = sortedNests(list)
	if len(list) > 200 {
		return nil
	}
	return list
}
