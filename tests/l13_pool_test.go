package tests

import (
	"fmt"
	"math/rand"
	"slices"
	"strings"

	"loop.example/g00036/impl"
)

// contextWords are so many names of fields of the context, as they are told where they are unknown.
func contextWords(many int) []string {
	var words []string
	for _, name := range countedNames(many) {
		words = append(words, "context."+name)
	}
	return words
}

// goodUnknowns are lists of every sort of what is unknown.
func goodUnknowns() [][]string {
	all := [][]string{
		nil, {}, {"action"}, {"context"}, {"principal"}, {"resource"},
		{"action", "principal"}, {"principal", "resource"}, {"action", "resource"}, {"action", "context"}, {"context", "principal"},
		{"action", "context", "principal", "resource"}, {"context", "context.n"}, {"context", "context.n", "context.ok"}, {"context.n", "principal"},
		{"context.A", "context.Z", "context._", "context.a"}, {"context.a", "context.a0", "context.aa", "context.b"}, {"context." + longName("n")},
		{"context.action", "context.context", "context.principal", "context.true"},
		contextWords(29), contextWords(30), append([]string{"action"}, contextWords(29)...),
		append(append([]string{"action", "context"}, contextWords(26)...), "principal", "resource"),
	}
	for _, name := range deskRequest().Names {
		all = append(all, []string{"context." + name}, []string{"action", "context." + name, "resource"})
	}
	return all
}

// wordsOfNothing may not be told as unknown, at no place.
func wordsOfNothing() []string {
	words := []string{
		"user", "Principal", "principal ", " principal", "principals", "princip", "action.", "actions", "resource.a", "principal.age", "Action", "true", "when", ".", "*",
		"contexts", "contex", "Context", "context ", "contextn", "context n", "context_n", "Context.n", "context:n", "context-n", "contexta.n", "context.n.n", "context..n", "context.n.", " context.n", "context. n", "context.n ", "context\n", "context.n\n", "context.n\x00", "principal\x00", "acontext.n",
	}
	for _, word := range badWords() {
		words = append(words, word, "context."+word)
	}
	return words
}

// badUnknowns are lists that are not as said, by one fault each.
func badUnknowns() [][]string {
	bad := [][]string{
		{"principal", "action"}, {"resource", "principal"}, {"context.n", "context"}, {"context.b", "context.a"}, {"context.a", "context.A"}, {"context.aa", "context.a"}, {"action", "principal", "context"}, {"context", "action", "principal"}, {"context.n", "action"}, {"principal", "context.n"},
		{"action", "action"}, {"principal", "principal"}, {"resource", "resource"}, {"context", "context"}, {"context.n", "context.n"}, {"action", "context", "context"}, {"action", "action", "context"}, {"action", "context", "action"},
		contextWords(31), append([]string{"action"}, contextWords(30)...), append(contextWords(30), "principal"), append(append([]string{"action", "context"}, contextWords(27)...), "principal", "resource"), contextWords(890), make([]string, 1), make([]string, 31), make([]string, 100000),
	}
	for _, word := range wordsOfNothing() {
		for _, others := range [][]string{nil, {"action"}, {"resource"}, {"action", "context", "context.m", "principal", "resource"}} {
			list := append(slices.Clone(others), word)
			slices.Sort(list)
			bad = append(bad, list)
		}
	}
	return bad
}

// foldCase is an expression at the desk, of whose request a part is unknown, with what it folds to.
type foldCase struct {
	unknown []string
	text    string
	want    string
}

// foldsAtDesk are told one by one; `=` is an expression that stays as it is.
func foldsAtDesk() []foldCase {
	var all []foldCase
	for unknown, rows := range foldRows() {
		for text, want := range rows {
			if want == "=" {
				want = text
			}
			all = append(all, foldCase{strings.Fields(unknown), text, want})
		}
	}
	return all
}

func foldRows() map[string]map[string]string {
	return map[string]map[string]string{
		"": {
			"principal": `User::"ann"`, "action": `Action::"view"`, "resource": `Doc::"d"`, "context": "=", "true": "=", "5": "=", "[]": "=", "[2, 1, 2]": "=", "1 + 2": "3", "resource.readers": "=", "resource.none": "=", "resource.num": "7", "resource.owner.boss": `User::"bob"`, "principal.hat": "=", "1 + true": "=", "1 + 2 + principal.hat": "=", "context.n": "3", "context.near": "=", "context has n": "true", "context has zip": "false", "context.zip": "=", "(5).age": "=",
			"principal is User && resource is Doc": "true", "true && 5": "=", "true && principal.hat": "=", "false && principal.hat": "false", "true || principal.hat": "true", "principal.hat || true": "=", "if true then context else 1": "=", "if true then 1 else context": "1", "if true then [2, 1] else 1": "=", "if 5 then 1 else 2": "=", "-(5)": "-5", "--(5)": "5", "!true": "false", "resource.pay + context.rate": "1.7500", "@5 == resource.when": "true", "resource.home": "10.1.0.0/16", "resource.title": `"Ann"`, "!(principal.hat == 1 + 2)": "=", "(if true then principal else context).age": "20",
		},
		"resource": {
			// What is known.
			"1 + 2": "3", "principal": `User::"ann"`, "action": `Action::"view"`, "context": "=", "[]": "=", "[2, 1, 2]": "=", "context.near": "=", "context.set": "=", "context.n": "3", "context.who.age": "3", "context.zip": "=", "principal.hat": "=", "principal.age": "20", "principal.boss.age": "3", "1 + true": "=", "1 + 2 + principal.hat": "=", "context == 1 + 2": "=", "principal in context.near": "false", `principal in Group::"top"`: "true", "true && principal.hat": "=", "true && 5": "=", "false && principal.hat": "false", "false && context": "false", "if true then context else 1 + 2": "=", "if true then [2, 1] else 1": "=", "if false then context else 1 + 2": "3", "principal has hat": "false", "context.rate": "0.2500", "context.from": "10.0.0.0/8", "context.due": "@9", "context.word": `"a*b"`, "context.ok": "true", "action.level": "2",
			// The unknown itself.
			"resource": "=", "resource.a": "=", "resource.num": "=", "resource.owner.age": "=", "resource has num": "=", "resource is Doc": "=", "resource is User": "=", "resource == resource": "=", "resource in resource": "=", "resource < resource": "=", `resource == Doc::"d"`: "=", "!resource.yes": "=", "-resource.num": "=", `resource.title like "A*"`: "=",

			// && behind each sort of first sides.
			"true && resource.a": "=", "true && resource": "=", "true && -resource.a": "=", "true && resource.a + 1": "=", "true && resource.a - 1": "=", "true && resource.a * 1": "=", "true && (if resource.a then true else false)": "=",
			"true && resource is Doc": "resource is Doc", "true && resource has a": "resource has a", `true && resource.a like "*"`: `resource.a like "*"`, "true && !resource.a": "!resource.a", "true && (resource.a && resource.b)": "resource.a && resource.b", "true && (resource.a || resource.b)": "resource.a || resource.b", "true && resource.a == 1": "resource.a == 1", "true && resource.a < 1": "resource.a < 1", "true && resource.a <= 1": "resource.a <= 1", "true && resource.a in principal": `resource.a in User::"ann"`, "true && resource.a contains 1": "resource.a contains 1", "true && resource.a within 10.0.0.0/8": "resource.a within 10.0.0.0/8",
			"true && (resource.a && false)": "resource.a && false", "true && (false && resource.a)": "true && false", "true && (true || resource.a)": "true && true", "true && (true && resource.a)": "true && resource.a", "true && (if true then resource else 1)": "true && resource", "true && (if true then resource is Doc else 1)": "resource is Doc", "true && (if true then [] else resource)": "true && []", "true && !(true || resource.a)": "!true", "true && (if false then resource else 5)": "true && 5",
			"false && resource.a": "false", "false && resource is Doc": "false", "false && resource": "false", "false && 1 + true == resource": "false",
			"5 && resource is Doc": "=", "0 && resource is Doc": "=", "1 && resource is Doc": "=", `"true" && resource is Doc`: "=", "@1 && resource is Doc": "=", "principal && resource is Doc": `User::"ann" && resource is Doc`, "1 + 2 && resource is Doc": "3 && resource is Doc",
			"[] && resource is Doc": "=", "context && resource is Doc": "=", "context.near && resource is Doc": "=", "principal.hat && resource is Doc": "=", "1 + true && resource is Doc": "=", "context.zip && resource.a": "=",
			"principal is User && resource is Doc": "resource is Doc", "principal is Doc && resource is Doc": "false", "principal is User && resource.a": "true && resource.a", "context.ok && resource.a": "true && resource.a", "context.ok && resource is Doc": "resource is Doc", "principal has hat && resource.a": "false",
			"resource is Doc && true": "=", "resource is Doc && false": "=", "resource.a && false": "=", "resource.a && true": "=", "resource is Doc && principal is Doc": "resource is Doc && false", "resource is Doc && principal is User": "resource is Doc && true", "resource is Doc && 1 + 2 == 3": "resource is Doc && true", "resource is Doc && principal.age": "resource is Doc && 20", "resource is Doc && principal.hat": "=", "resource is Doc && context": "=", "resource is Doc && []": "=", "resource is Doc && resource has a": "=", "resource is Doc && (false && resource.a)": "resource is Doc && false", "resource is Doc && (true && resource has a)": "resource is Doc && resource has a",
			"(true || resource.a) && resource is Doc": "resource is Doc", "(true || resource.a) && resource.a": "true && resource.a", "false && resource.a && resource.b": "false", "true && resource.a && resource.b": "=", "true && resource has a && resource.b": "resource has a && resource.b", "!(true || resource.a) && resource is Doc": "!true && resource is Doc", "(if true then true else resource) && resource is Doc": "resource is Doc", "(if true then false else resource) && resource.a": "false",
			// || likewise, with true and false changed about.
			"false || resource.a": "=", "false || resource": "=", "false || -resource.a": "=", "false || resource.a + 1": "=", "false || resource.a - 1": "=", "false || resource.a * 1": "=", "false || (if resource.a then true else false)": "=",
			"false || resource is Doc": "resource is Doc", "false || resource has a": "resource has a", `false || resource.a like "*"`: `resource.a like "*"`, "false || !resource.a": "!resource.a", "false || resource.a && resource.b": "resource.a && resource.b", "false || (resource.a || resource.b)": "resource.a || resource.b", "false || resource.a == 1": "resource.a == 1", "false || resource.a < 1": "resource.a < 1", "false || resource.a <= 1": "resource.a <= 1", "false || resource.a in principal": `resource.a in User::"ann"`, "false || resource.a contains 1": "resource.a contains 1", "false || resource.a within 10.0.0.0/8": "resource.a within 10.0.0.0/8",
			"false || (resource.a || true)": "resource.a || true", "false || (true || resource.a)": "false || true", "false || false && resource.a": "false || false", "false || (false || resource.a)": "false || resource.a", "false || (if false then 1 else resource has a)": "resource has a",
			"true || resource.a": "true", "true || resource is Doc": "true", "true || resource": "true", "principal is User || resource.a": "true", "principal is Doc || resource is Doc": "resource is Doc", "principal is Doc || resource.a": "false || resource.a",
			"5 || resource is Doc": "=", "1 || resource is Doc": "=", "0 || resource is Doc": "=", `"false" || resource is Doc`: "=", "principal || resource is Doc": `User::"ann" || resource is Doc`, "[] || resource is Doc": "=", "context || resource is Doc": "=", "principal.hat || resource is Doc": "=",
			"resource is Doc || true": "=", "resource is Doc || false": "=", "resource.a || true": "=", "resource is Doc || principal is User": "resource is Doc || true", "resource is Doc || principal.hat": "=", "resource is Doc || (true || resource.a)": "resource is Doc || true",
			"false && resource.a || resource is Doc": "resource is Doc", "true || resource.a || resource.b": "true", "false || resource.a || resource.b": "=", "false || resource has a || resource.b": "resource has a || resource.b", "true && resource is Doc || resource.a": "resource is Doc || resource.a",
			`principal in Group::"g" && resource == Doc::"d" || resource has a`: `resource == Doc::"d" || resource has a`,

			// if, with what it asks.
			"if true then resource else principal.hat": "resource", "if false then principal.hat else resource": "resource", "if principal is User then resource else principal": "resource", "if principal is Doc then resource else principal": `User::"ann"`, "if true then 1 + 2 else resource": "3", "if true then [2, 1] else resource": "[2, 1]", "if true then principal.hat else resource": "principal.hat", "if false then resource else 1 + true": "1 + true", "if false then resource else context.near": "context.near", "if context.ok then resource.a else resource.b": "resource.a", "if true then resource.a + (1 + 2) else 1": "resource.a + 3",
			"if true then context else resource": "=", "if false then resource else context": "=", "if true then resource else context": "resource", "if false then context else resource": "resource", "if true then context else resource.a == 1 + 2": "if true then context else resource.a == 3", "if false then resource.a == 1 + 2 else context": "if false then resource.a == 3 else context", "if principal is User then context else resource": "if true then context else resource", "if principal is Doc then resource else context": "if false then resource else context", "(if true then context else resource).n": "=", "(if true then context else resource) has n": "=", "(if principal is User then context else resource).n": "(if true then context else resource).n", "(if false then resource else context).n": "=",
			"if 5 then resource else 1 + 2": "if 5 then resource else 3", "if 1 then resource else resource": "=", "if 0 then resource else resource": "=", `if "true" then resource else 1`: "=", "if principal then resource else 1 + 2": `if User::"ann" then resource else 3`, "if [] then resource else 1 + 2": "if [] then resource else 3", "if [true] then resource else 1": "=", "if context then resource else 1 + 2": "if context then resource else 3", "if principal.hat then resource else 1 + 2": "if principal.hat then resource else 3", "if 1 + true then 1 + 2 else resource": "if 1 + true then 3 else resource",
			"if resource.a then 1 + 2 else principal.age": "if resource.a then 3 else 20", "if resource.a then true else true": "=", "if resource.a then context else context": "=", "if resource.a then principal.hat else [2, 1]": "=", "if resource is Doc then principal else action": `if resource is Doc then User::"ann" else Action::"view"`,
			"if true || resource.a then resource else 1": "resource", "if false && resource.a then 1 else resource": "resource", "if !(true || resource.a) then resource else 1 + 2": "if !true then resource else 3", "if true && resource.a then 1 + 2 else 2": "if true && resource.a then 3 else 2", "if true then if false then resource else context else 1": "if false then resource else context", "if if true then false else resource then 1 else resource": "resource", "if true then if resource.a then 1 else 2 else 3": "if resource.a then 1 else 2",

			// All other kinds, with kids that fold.
			"!(true || resource.a)": "!true", "!(false && resource.a)": "!false", "!(true && resource is Doc)": "!(resource is Doc)", "!!(true || resource.a)": "!!true", "-(if true then 5 else resource)": "-(5)", "-(if true then principal.age else resource)": "-(20)", "(if true then principal else resource).age": `(User::"ann").age`, "(if false then resource else principal.boss).age": `(User::"bob").age`, "(if true then resource else principal).age": "resource.age", "(if true then principal else resource) has age": `User::"ann" has age`, "(if true then principal else resource) is User": `User::"ann" is User`, `(if true then "a" else resource) like "*"`: `"a" like "*"`,
			"1 + 2 == resource.num": "3 == resource.num", "resource.num == 1 + 2": "resource.num == 3", "principal == resource": `User::"ann" == resource`, "resource.num < principal.age + context.n": "resource.num < 23", "principal.age < resource.num": "20 < resource.num", "1 + 2 <= resource.num": "3 <= resource.num", "1 + 2 + resource.num": "3 + resource.num", "resource.num + 1 + 2": "=", "resource.num + (1 + 2)": "resource.num + 3", "3 - 1 - resource.num": "2 - resource.num", "2 * 3 * resource.num": "6 * resource.num", "principal in resource.readers": `User::"ann" in resource.readers`, "resource in [Doc::\"d\", Doc::\"a\"]": "=", "resource in context.near": "=", "context.set contains resource.num": "=", "resource.list contains context.n": "resource.list contains 3", "[2, 1] contains resource.num": "=", "resource.home within context.from": "resource.home within 10.0.0.0/8", "context.from within resource.home": "10.0.0.0/8 within resource.home",
			// Faults that stay where they are.
			"resource.num + principal.hat": "=", "principal.hat + resource.num": "=", "(1 + true) * resource.num": "=", "resource.num * (1 + true)": "=", "context == resource": "=", "resource == context": "=", "resource.num + (1 + 2 + principal.hat)": "=", "principal.hat == resource": "=", "!(context == resource)": "=", "context.zip < resource.num": "=", "resource.num < true": "=", "5 in resource": "=", "[] < resource.num": "=",
		},
		"principal": {
			"principal": "=", "resource": `Doc::"d"`, "principal.age": "=", "resource.num": "7", "principal.age + resource.num": "principal.age + 7", "principal == resource.owner": `principal == User::"ann"`, "resource.owner.age": "20", "principal in resource.readers": "=", "resource.readers contains principal": "=", "action == principal": `Action::"view" == principal`, "context.who == principal": `User::"bob" == principal`, "principal has age && resource.yes": "principal has age && true", "resource.yes && principal has age": "principal has age", "resource.yes && principal.age": "true && principal.age", "resource.no && principal.age": "false", "resource.no || principal is User": "principal is User",
		},
		"action": {
			"action": "=", "principal": `User::"ann"`, `action == Action::"view"`: "=", `action in Action::"read" && principal is User`: `action in Action::"read" && true`, `principal is User && action in Action::"read"`: `action in Action::"read"`, "action.level + principal.age": "action.level + 20", "action has level": "=", "action is Action": "=", "resource.owner == principal": "true",
		},
		"context": {
			"context": "=", "context.n": "=", "context has n": "=", "context.zip": "=", "context has zip": "=", "context.who.age": "=", "context.n.n": "=", "!context": "=", "context == 1 + 2": "=", "context && true": "=", "principal.age": "20", "resource.num": "7", "principal": `User::"ann"`, "context.n + (1 + 2)": "context.n + 3", "principal.age < context.n": "20 < context.n", "if context then context.n else 1 + 2": "if context then context.n else 3", "(if true then context else principal).n": "=", "(if true then principal else context).age": "20", "(if true then context else context.n).n": "=", "true && context has n": "context has n", "true && context.ok": "=", "principal is Doc || context.n == 3": "context.n == 3", "context.context": "=", "principal has n": "false", "principal.n": "=", "resource has context": "false", "context is n && 1 + 2 == 3": "=", `context like "n" && 1 + 2 == 3`: "=", "context has n && 1 + 2 == 3": "context has n && true", "context == 1 && 1 + 2 == 3": "=",
		},
		"context.n": {
			"context.n": "=", "context has n": "=", "context.n.age": "=", "context.n has n": "=", "context.who": `User::"bob"`, "context has who": "true", "context has zip": "false", "context.zip": "=", "context.who.n": "=", "context.who has n": "false", "principal.n": "=", "principal has n": "false", "context": "=", "context.near": "=", "context.n == 3 && context.ok": "context.n == 3 && true", "context.ok && context.n == 3": "context.n == 3", "context.ok && context.n": "true && context.n", "(if true then principal else context).n": "=", "(if true then principal else context) has n": "false", "(if context.n then context else context).n": "=", "context.set contains context.n": "=", "context.rate": "0.2500", "context == context.n": "=", "context.nn": "=", "context has nn": "false", "context has N": "false", "context is n": "=", `context like "n"`: "=", "context is n && 1 + 2 == 3": "=", `context like "n" && 1 + 2 == 3`: "=", "context has n && 1 + 2 == 3": "context has n && true", "context == 1 && 1 + 2 == 3": "=", "principal is n && 1 + 2 == 3": "false",
		},
		"context.zip": {
			"context.zip": "=", "context has zip": "=", "context.n": "3", "context has n": "true", "context has zip && context.n == 3": "context has zip && true", "context.n == 3 && context has zip": "context has zip", "resource.zip": "=", "resource has zip": "false",
		},
		"context.n context.ok": {
			"context.n": "=", "context.ok": "=", "context has ok": "=", "context.who": `User::"bob"`, "context.ok && context.n == 3": "=", "context.word": `"a*b"`,
		},
		"context context.n": {
			"context.n": "=", "context.ok": "=", "context has zip": "=", "principal": `User::"ann"`,
		},
		"context.context": {
			"context.context": "=", "context has context": "=", "context": "=", "context.n": "3", "context.context.n": "=",
		},
		"context.principal context.resource": {
			"principal": `User::"ann"`, "resource": `Doc::"d"`, "context.principal": "=", "context.resource": "=", "principal has principal": "false",
		},
		"action context principal resource": {
			"principal": "=", "action": "=", "resource": "=", "context": "=", "context.n": "=", "1 + 2": "3", `User::"ann" in Group::"top"`: "true", `(User::"ann").age`: "20", `(User::"zed").age`: "=", "principal == resource && 1 + 2 == 3": "principal == resource && true", "1 + 2 == 3 && principal == resource": "principal == resource", "context == context": "=", "if 1 + 2 == 3 then action else resource": "action",
		},
	}
}

// sidesOfFolds are expressions with one unknown, `context.n`: of each sort that a kid may be once it is folded.
func sidesOfFolds() []string {
	return []string{
		"true", "false", "5", `"a"`, "principal", "principal is User", "principal is Doc", "[1]", "principal.hat", "1 + true", "context",
		"context.n", "context has n", "!context.n", "context.n == 1", "context.n + 1", "context.n && context.ok",
		"true || context.n", "false && context.n", "if true then 5 else context.n", "if true then principal else context.n", "if true then [1] else context.n", "if true then context else context.n", "if false then context.n else principal.hat", "if context.n then 1 else 2",
	}
}

// valuesOfUnknown are what `context.n` may turn out to be; the empty text is no field at all.
func valuesOfUnknown() []string {
	return []string{"", "true", "false", "1", "5", `"a"`, `User::"ann"`, `User::"zed"`, "[1]", "[]", "1.0000", "10.0.0.0/8", "@1"}
}

// withField is the request with that field, or without it where the value is the empty text.
func withField(r impl.Request, name string, value string) impl.Request {
	r.Names, r.Values = slices.Clone(r.Names), slices.Clone(r.Values)
	takeField(&r.Names, &r.Values, name)
	if value != "" {
		putField(&r.Names, &r.Values, name, valueOf(value))
	}
	return r
}

// unknownWords are all that may be unknown at the desk, rising.
func unknownWords() []string {
	words := []string{"action", "context"}
	for _, name := range deskRequest().Names {
		words = append(words, "context."+name)
	}
	return append(words, "context.zip", "principal", "resource")
}

// unknown draws a list of what is unknown: mostly one or two, at times none, at times many.
func (d deskDrawer) unknown() []string {
	many := oneOf(d.from, []int{0, 1, 1, 1, 2, 2, 3, 6})
	var list []string
	for range many {
		list = append(list, oneOf(d.from, append(unknownWords(), "principal", "resource", "resource", "principal", "action")))
	}
	slices.Sort(list)
	return slices.Compact(list)
}

// deskValues are values that a field of the context may have.
func deskValues() []string {
	return []string{"true", "false", "0", "3", "20", `"a"`, `"Ann"`, `User::"ann"`, `User::"bob"`, `Doc::"d"`, "0.2500", "10.0.0.0/8", "@5", "[]", "[1,2]", `[User::"bob"]`, `[1,"a"]`}
}

// otherwise is the request with other things in the place of what is unknown.
func (d deskDrawer) otherwise(r impl.Request, unknown []string) impl.Request {
	refs := refsOf(`User::"ann" User::"bob" User::"zed" Doc::"d" Folder::"f" Action::"view" Action::"read" Group::"g"`)
	for _, word := range unknown {
		name, isField := strings.CutPrefix(word, "context.")
		switch {
		case word == "principal":
			r.Principal = oneOf(d.from, refs)
		case word == "action":
			r.Action = oneOf(d.from, refs)
		case word == "resource":
			r.Resource = oneOf(d.from, refs)
		case word == "context":
			for _, name := range append(deskRequest().Names, "hat") {
				r = withField(r, name, oneOf(d.from, append(deskValues(), "", "", "", "")))
			}
		case isField:
			r = withField(r, name, oneOf(d.from, append(deskValues(), "", "", "", "")))
		}
	}
	return r
}

// hallOf are ten things, T::"a" to T::"j". A row says what a thing has: `^` and the Text of a Parent, `x=` and that of a ref, `x=[` those of a set `]`.
func hallOf(rows map[string]string) []impl.Thing {
	var list []impl.Thing
	for _, letter := range strings.Split("abcdefghij", "") {
		t := impl.Thing{Ref: refAtom("T", letter)}
		for _, word := range strings.Fields(rows[letter]) {
			name, text, isField := strings.Cut(word, "=")
			switch {
			case isField:
				t.Names, t.Values = append(t.Names, name), append(t.Values, hallValue(text))
			default:
				t.Parents = append(t.Parents, refAtom("T", word[1:]))
			}
		}
		list = append(list, t)
	}
	return list
}

func hallValue(text string) impl.Value {
	items, isSet := strings.CutPrefix(text, "[")
	if !isSet {
		return atomValue(refAtom("T", text))
	}
	var refs []impl.Atom
	for _, letter := range strings.Split(strings.TrimSuffix(items, "]"), ",") {
		refs = append(refs, refAtom("T", letter))
	}
	return setValue(refs...)
}

func hallRequest() impl.Request {
	return impl.Request{Principal: refAtom("T", "a"), Action: refAtom("T", "b"), Resource: refAtom("T", "c")}
}

// lettersOf are the Texts of the things, in order.
func lettersOf(list []impl.Thing) string {
	var letters []string
	for _, t := range list {
		letters = append(letters, t.Ref.Text)
	}
	return strings.Join(letters, "")
}

// hallDrawer draws things that lead to each other by Parents and fields, and what asks for them.
type hallDrawer struct {
	from *rand.Rand
}

// ref draws one of more refs than there are things.
func (d hallDrawer) ref() impl.Atom {
	return refAtom("T", oneOf(d.from, strings.Split("abcdefghijklm", "")))
}

func (d hallDrawer) refs(most int) []impl.Atom {
	var refs []impl.Atom
	for range d.from.Intn(most + 1) {
		refs = append(refs, d.ref())
	}
	slices.SortFunc(refs, impl.CompareAtoms)
	return slices.Compact(refs)
}

// fields draws some of `n`, a number, `s`, a set of refs, `x` and `y`, refs.
func (d hallDrawer) fields() ([]string, []impl.Value) {
	values := map[string]impl.Value{"n": atomValue(numAtom(d.from.Intn(3))), "s": setValue(d.refs(3)...), "x": atomValue(d.ref()), "y": atomValue(d.ref())}
	var names []string
	var own []impl.Value
	for _, name := range []string{"n", "s", "x", "y"} {
		if d.from.Intn(3) > 0 {
			names, own = append(names, name), append(own, values[name])
		}
	}
	return names, own
}

func (d hallDrawer) things() []impl.Thing {
	var list []impl.Thing
	for _, t := range hallOf(nil) {
		t.Parents = d.refs(oneOf(d.from, []int{0, 0, 0, 1, 2}))
		t.Names, t.Values = d.fields()
		if d.from.Intn(6) > 0 {
			list = append(list, t)
		}
	}
	return list
}

func (d hallDrawer) request() impl.Request {
	r := impl.Request{Principal: d.ref(), Action: d.ref(), Resource: d.ref()}
	r.Names, r.Values = d.fields()
	return r
}

// path draws what mostly gives a ref, by way of some fields.
func (d hallDrawer) path() []impl.Expr {
	e := oneOf(d.from, [][]impl.Expr{varExpr("principal"), varExpr("action"), varExpr("resource"), getExpr(varExpr("context"), "x"), litExpr(d.ref()), litExpr(d.ref())})
	for range d.from.Intn(4) {
		e = getExpr(e, oneOf(d.from, []string{"x", "y"}))
	}
	return e
}

// test draws what mostly gives a bool.
func (d hallDrawer) test(within int) []impl.Expr {
	var kids []impl.Atom
	for range d.from.Intn(4) {
		kids = append(kids, d.ref())
	}
	switch pick := d.from.Intn(9); {
	case pick <= 1 && within > 1:
		return exprOf(oneOf(d.from, []int{impl.ExprAnd, impl.ExprOr}), "", d.test(within-1), d.test(within-1))
	case pick == 2 && within > 1:
		return notExpr(d.test(within - 1))
	case pick == 3:
		return exprOf(impl.ExprHas, oneOf(d.from, []string{"n", "s", "x", "y"}), d.path())
	case pick == 4:
		return exprOf(impl.ExprLess, "", getExpr(d.path(), "n"), numExpr(d.from.Intn(3)))
	case pick == 5:
		return exprOf(impl.ExprContains, "", getExpr(d.path(), "s"), d.path())
	case pick == 6:
		return exprOf(impl.ExprSame, "", d.path(), d.path())
	}
	return exprOf(impl.ExprIn, "", d.path(), oneOf(d.from, [][]impl.Expr{d.path(), d.path(), setExpr(kids...), getExpr(d.path(), "s")}))
}

func (d hallDrawer) head() impl.Head {
	return oneOf(d.from, []impl.Head{anyHead(), anyHead(), anyHead(), {Kind: impl.HeadSame, Atom: d.ref()}, {Kind: impl.HeadIn, Atom: d.ref()}, isHead("T")})
}

func (d hallDrawer) policies(many int) []impl.Policy {
	var policies []impl.Policy
	for i := range many {
		p := impl.Policy{Id: fmt.Sprint("p", 100+i), Permit: d.from.Intn(2) == 0, Principal: d.head(), Action: d.head(), Resource: d.head()}
		if d.from.Intn(5) > 0 {
			p.When = d.test(3)
		}
		policies = append(policies, p)
	}
	return policies
}
