package tests

import (
	"fmt"
	"math"
	"math/rand"
	"slices"
	"strings"

	"loop.example/g00036/impl"
)

// deskThings are good things by no schema: with Parents in a loop, of itself, by two ways to one, and that are not in the list.
func deskThings() []impl.Thing {
	return []impl.Thing{
		thingOf(refAtom("Action", "view"), "level=2", refAtom("Action", "read")),
		thingOf(refAtom("Doc", "d"), `home=10.1.0.0/16 list=[1,2] lost=User::"gone" mixed=[1,"a",User::"ann"] no=false none=[] num=7 owner=User::"ann" pay=1.5000 readers=[User::"ann",User::"bob"] title="Ann" when=@5 yes=true`, refAtom("Folder", "f")),
		thingOf(refAtom("Folder", "f"), "", refAtom("Folder", "g"), refAtom("Folder", "h")),
		thingOf(refAtom("Folder", "g"), "depth=1", refAtom("Folder", "f")),
		thingOf(refAtom("Group", "g"), "", refAtom("Group", "top")),
		thingOf(refAtom("Group", "k"), "", refAtom("Group", "top")),
		thingOf(refAtom("Self", "s"), "", refAtom("Self", "s")),
		thingOf(refAtom("User", "ann"), `age=20 boss=User::"bob" name="ann"`, refAtom("Group", "g")),
		thingOf(refAtom("User", "bob"), "age=3", refAtom("Group", "g"), refAtom("Group", "k")),
	}
}

func deskRequest() impl.Request {
	return requestOf(refAtom("User", "ann"), "view", refAtom("Doc", "d"), `due=@9 from=10.0.0.0/8 n=3 near=[User::"bob"] ok=true rate=0.2500 set=[1,2,3] who=User::"bob" word="a*b"`)
}

// deskAncestors are, for each ref of deskThings and some others, what is above it.
func deskAncestors() map[string]string {
	return map[string]string{
		`Action::"view"`: `Action::"read" Action::"view"`,
		`Action::"read"`: `Action::"read"`,
		`Doc::"d"`:       `Doc::"d" Folder::"f" Folder::"g" Folder::"h"`,
		`Folder::"f"`:    `Folder::"f" Folder::"g" Folder::"h"`,
		`Folder::"g"`:    `Folder::"f" Folder::"g" Folder::"h"`,
		`Folder::"h"`:    `Folder::"h"`,
		`Group::"g"`:     `Group::"g" Group::"top"`,
		`Group::"top"`:   `Group::"top"`,
		`Self::"s"`:      `Self::"s"`,
		`User::"ann"`:    `Group::"g" Group::"top" User::"ann"`,
		`User::"bob"`:    `Group::"g" Group::"k" Group::"top" User::"bob"`,
		`User::"gone"`:   `User::"gone"`,
		`Zoo::"z"`:       `Zoo::"z"`,
		`User::"an"`:     `User::"an"`,
		`user::"ann"`:    `user::"ann"`,
	}
}

// deskOutcomes are texts of expressions with what they give at the desk: the text of a value, `!1` for EvalKind, `!2` for EvalMissing.
func deskOutcomes() map[string]string {
	return map[string]string{
		"principal": `User::"ann"`, "action": `Action::"view"`, "resource": `Doc::"d"`, "context": "!1",
		"true": "true", "false": "false", "5": "5", "-5": "-5", `"a"`: `"a"`, `User::"x"`: `User::"x"`, "1.5000": "1.5000", "10.0.0.0/8": "10.0.0.0/8", "@5": "@5",
		"[]": "[]", "[1]": "[1]", "[2, 1, 2]": "[1,2]", "[3, 2, 1]": "[1,2,3]", `["b", "a", 1, true]`: `[true,1,"a","b"]`, `[User::"b", Doc::"b", User::"a"]`: `[Doc::"b",User::"a",User::"b"]`, "[7, 7, 7, 7, 7, 7, 7, 7, 7, 7]": "[7]",

		"principal.age": "20", "principal.boss": `User::"bob"`, "principal.boss.age": "3", "principal.boss.boss": "!2", "principal.hat": "!2", "principal.hat.age": "!2", "principal.boss.hat.age": "!2", "principal.ag": "!2", "principal.Age": "!2", "principal.n": "!2", "resource.age": "!2",
		"resource.readers": `[User::"ann",User::"bob"]`, "resource.none": "[]", "resource.mixed": `[1,"a",User::"ann"]`, "resource.yes": "true", "resource.no": "false", "resource.num": "7", "resource.pay": "1.5000", "resource.when": "@5", "resource.home": "10.1.0.0/16", "resource.title": `"Ann"`,
		"resource.lost": `User::"gone"`, "resource.lost.age": "!2", "resource.owner.age": "20", "resource.owner.boss.age": "3", "resource.num.age": "!1", "resource.title.age": "!1", "resource.readers.age": "!1", "resource.none.age": "!1", "resource.mixed.age": "!1", "resource.yes.age": "!1", "resource.home.age": "!1", "resource.when.age": "!1", "resource.pay.age": "!1",
		"action.level": "2", "action.n": "!2", `(Action::"read").level`: "!2", `(User::"ann").age`: "20", `(User::"zed").age`: "!2", `(user::"ann").age`: "!2", "(5).age": "!1", "(true).age": "!1", `("User::ann").age`: "!1", "([]).age": "!1", `([User::"ann"]).age`: "!1", "(@5).age": "!1",
		"context.n": "3", "context.ok": "true", "context.who": `User::"bob"`, "context.who.age": "3", "context.who.boss": "!2", "context.near": `[User::"bob"]`, "context.age": "!2", "context.zip": "!2", "context.zip.age": "!2", "context.n.n": "!1", "context.near.age": "!1", "context.context": "!2", "context.principal": "!2",
		"(if true then context else context).n": "!1", "(if true then principal else context).age": "20", "(if false then principal else context).age": "!1", "(!context).n": "!1", "(context == context).n": "!1", "(context && true).n": "!1", "(if context then context else context).n": "!1", "(if true then principal.boss else 1).age": "3",

		"principal has age": "true", "principal has hat": "false", "principal has boss": "true", "principal.boss has boss": "false", "principal.boss has age": "true", "principal has n": "false", "resource has none": "true", "resource has no": "true", "resource has age": "false", "resource.lost has age": "false", "action has level": "true", "action has n": "false", `User::"ann" has age`: "true", `User::"zed" has age`: "false", `Folder::"f" has age`: "false", `Folder::"h" has depth`: "false",
		"context has n": "true", "context has age": "false", "context has context": "false", "context.who has age": "true", "context.who has boss": "false", "context.n has n": "!1", "context.zip has n": "!2", "principal.hat has age": "!2", "5 has age": "!1", "true has age": "!1", `"a" has age`: "!1", "[] has age": "!1", `[User::"ann"] has age`: "!1", "resource.readers has age": "!1", "(if true then context else context) has n": "!1", "!context has n": "!1", "(principal has age) has age": "!1",

		"!true": "false", "!false": "true", "!!true": "true", "!resource.no": "true", "!5": "!1", "!0": "!1", "!1": "!1", `!"true"`: "!1", "!principal": "!1", "![]": "!1", "![true]": "!1", "!@1": "!1", "!1.0000": "!1", "!10.0.0.0/8": "!1", "!context": "!1", "!principal.hat": "!2", "!principal.age": "!1",
		"-(5)": "-5", "-(-5)": "5", "-(0)": "0", "--(5)": "5", "-principal.age": "-20", "-(1.5000)": "-1.5000", "-(-0.0001)": "0.0001", "-(9223372036854775807)": "-9223372036854775807", "-(-9223372036854775808)": "-9223372036854775808", "-(-922337203685477.5808)": "-922337203685477.5808", "-(922337203685477.5807)": "-922337203685477.5807", "-(true)": "!1", `-("5")`: "!1", "-(@5)": "!1", "-(10.0.0.0/8)": "!1", "-principal": "!1", "-[5]": "!1", "-[]": "!1", "-context": "!1", "-principal.hat": "!2",

		"true && true": "true", "true && false": "false", "false && true": "false", "false && false": "false", "true || true": "true", "true || false": "true", "false || true": "true", "false || false": "false",
		"false && principal.hat": "false", "false && 5": "false", "false && context": "false", "false && 1 + true": "false", "true && principal.hat": "!2", "true && 5": "!1", "true && context": "!1", "true && 1 + true": "!1", "true && []": "!1", "true && [true]": "!1", "true && principal": "!1", `true && "true"`: "!1",
		"true || principal.hat": "true", "true || 5": "true", "true || context": "true", "true || 1 + true": "true", "false || principal.hat": "!2", "false || 5": "!1", "false || context": "!1", "false || 1 + true": "!1", "false || []": "!1", "false || principal": "!1", "false || 0": "!1",
		"principal.hat && false": "!2", "principal.hat && true": "!2", "principal.hat || true": "!2", "principal.hat || false": "!2", "context && false": "!1", "context || true": "!1", "1 + true && principal.hat": "!1", "principal.hat && context": "!2", "context || principal.hat": "!1",
		"5 && true": "!1", "5 && false": "!1", "0 && true": "!1", "0 && false": "!1", "1 || true": "!1", "1 || false": "!1", "0 || true": "!1", "[] && true": "!1", "[false] && false": "!1", "principal || true": "!1", `"false" && true`: "!1", `"true" || true`: "!1", "5 && 5": "!1", "@0 && true": "!1", "0.0000 && true": "!1", "0.0.0.0/0 && true": "!1",
		"5 && principal.hat": "!2", "5 || principal.hat": "!2", "0 && principal.hat": "!2", "1 || principal.hat": "!2", "[] && principal.hat": "!2", "principal || principal.hat": "!2", "5 && context": "!1", "5 || 1 + true": "!1",
		"false && principal.hat && true": "false", "true && false && principal.hat": "false", "true && (false || principal.hat)": "!2", "true || principal.hat && principal.hat": "true", "(true || principal.hat) && (false && principal.hat)": "false", "!(false && principal.hat)": "true", "!(true && principal.hat)": "!2",

		"if true then 1 else 2": "1", "if false then 1 else 2": "2", "if true then 1 else principal.hat": "1", "if false then principal.hat else 2": "2", "if true then principal.hat else 2": "!2", "if false then 1 else principal.hat": "!2", "if true then 1 else context": "1", "if false then context else 2": "2", "if true then context else 2": "!1", "if true then [] else 5": "[]", "if true then principal else 5": `User::"ann"`, "if false then principal else 5": "5", "if true then 1 else 1 + true": "1", "if true then 1 + true else 1": "!1",
		"if 5 then 1 else 2": "!1", "if 1 then 1 else 2": "!1", "if 0 then 1 else 2": "!1", "if [] then 1 else 2": "!1", "if [true] then 1 else 2": "!1", `if "true" then 1 else 2`: "!1", "if principal then 1 else 2": "!1", "if context then 1 else 2": "!1", "if 5 then principal.hat else principal.hat": "!1", "if 5 then context else principal.hat": "!1", "if principal.hat then 1 else 2": "!2", "if principal.hat then context else context": "!2", "if 1 + true then principal.hat else principal.hat": "!1",
		"if principal has hat then principal.hat else principal.age": "20", "if principal has age then principal.age else principal.hat": "20", "if if true then false else true then 1 else 2": "2", "if false then 1 else if true then 2 else principal.hat": "2",

		"1 == 1": "true", "1 == 2": "false", "1 == true": "false", "0 == false": "false", `1 == "1"`: "false", "1 == 1.0000": "false", "1 == @1": "false", "0 == 0.0.0.0/0": "false", "1.0000 == @10000": "false", `"a" == "a"`: "true", `"a" == "A"`: "false", `"true" == true`: "false", `"" == []`: "false", "true == true": "true", "true == false": "false",
		"1 == [1]": "false", "[1] == 1": "false", "[1] == [1]": "true", "[2, 1] == [1, 2, 1]": "true", "[1] == [2]": "false", "[] == []": "true", "[] == [1]": "false", "[1] == [true]": "false", "[1] == [1.0000]": "false", "resource.readers == [User::\"bob\", User::\"ann\"]": "true", "resource.none == []": "true", "resource.mixed == [User::\"ann\", \"a\", 1]": "true", `"[1]" == [1]`: "false",
		`principal == User::"ann"`: "true", `principal == User::"bob"`: "false", `principal == Doc::"ann"`: "false", `principal == "ann"`: "false", `User::"x" == User::"x"`: "true", `User::"x" == "User::\"x\""`: "false", "principal == resource.owner": "true", "principal == resource": "false", "resource.lost == User::\"gone\"": "true", "principal == principal": "true", "principal.boss == context.who": "true",
		"1 == context": "!1", "context == 1": "!1", "context == context": "!1", "principal.hat == 1": "!2", "1 == principal.hat": "!2", "principal.hat == context": "!2", "context == principal.hat": "!1", "principal.hat == principal.hat": "!2", "10.0.0.0/8 == 10.0.0.0/8": "true", "10.0.0.0/8 == 10.0.0.0/9": "false", "@5 == resource.when": "true",

		"1 < 2": "true", "2 < 1": "false", "1 < 1": "false", "1 <= 1": "true", "2 <= 1": "false", "1 <= 2": "true", "-9223372036854775808 < 9223372036854775807": "true", "9223372036854775807 < -9223372036854775808": "false", "-9223372036854775808 <= -9223372036854775808": "true", "10 < 9": "false", "-10 < 9": "true",
		`"a" < "b"`: "true", `"b" < "a"`: "false", `"a" < "a"`: "false", `"a" <= "a"`: "true", `"" < "a"`: "true", `"a" < "aa"`: "true", `"B" < "a"`: "true", `"10" < "9"`: "true", `"a" <= "A"`: "false", `"\"" < "a"`: "true", `"b" <= "ab"`: "false",
		"1.0000 < 1.0001": "true", "1.0001 < 1.0000": "false", "-0.0001 < 0.0000": "true", "1.0000 <= 1.0000": "true", "1.0001 <= 1.0000": "false", "@1 < @2": "true", "@2 < @1": "false", "@-2 < @-1": "true", "@1 <= @1": "true", "@2 <= @1": "false",
		"true < false": "!1", "false < true": "!1", "false <= true": "!1", "true <= true": "!1", "principal < resource": "!1", "principal <= principal": "!1", `User::"a" < User::"b"`: "!1", "10.0.0.0/8 < 10.0.0.0/9": "!1", "10.0.0.0/8 <= 10.0.0.0/8": "!1", "[1] < [2]": "!1", "[1] <= [1]": "!1", "[] < []": "!1", "[] <= []": "!1",
		"1 < 1.0000": "!1", "1.0000 < 1": "!1", "1 < @2": "!1", "@1 < 2": "!1", `1 < "2"`: "!1", `"1" < 2`: "!1", "1 < true": "!1", "1 < [2]": "!1", "[1] < 2": "!1", `"a" < User::"a"`: "!1", "1.0000 <= @10000": "!1", "1 < context": "!1", "context <= 1": "!1", "principal.hat < 1": "!2", "true < principal.hat": "!2", "principal.hat < context": "!2", "context < principal.hat": "!1",

		"1 + 2": "3", "1 - 2": "-1", "2 * 3": "6", "-2 * 3": "-6", "0 * 5": "0", "1 + 2 * 3": "7", "10 - 4 - 3": "3", "10 - (4 - 3)": "9", "principal.age + context.n * 2": "26", "9223372036854775807 + 1": "-9223372036854775808", "-9223372036854775808 - 1": "9223372036854775807", "-9223372036854775808 + -9223372036854775808": "0", "9223372036854775807 + 9223372036854775807": "-2", "9223372036854775807 - -1": "-9223372036854775808", "0 - -9223372036854775808": "-9223372036854775808", "9223372036854775807 * 2": "-2", "-9223372036854775808 * -1": "-9223372036854775808", "9223372036854775807 * 9223372036854775807": "1", "4294967296 * 4294967296": "0", "4611686018427387904 * 2": "-9223372036854775808", "3037000500 * 3037000500": "-9223372036709301616",
		"1.0000 + 2.5000": "3.5000", "1.0000 - 2.5000": "-1.5000", "0.0001 - 0.0001": "0.0000", "922337203685477.5807 + 0.0001": "-922337203685477.5808", "-922337203685477.5808 - 0.0001": "922337203685477.5807", "resource.pay + context.rate": "1.7500", "resource.pay - context.rate": "1.2500",
		"1.0000 * 2.0000": "!1", "1 * 2.0000": "!1", "1.0000 * 2": "!1", "1 + 1.0000": "!1", "1.0000 + 1": "!1", "1 - 1.0000": "!1", "1.0000 - 1": "!1", "@1 + @1": "!1", "@2 - @1": "!1", "@1 * @1": "!1", "@1 + 1": "!1", "1 + @1": "!1", "@1 * 2": "!1", `"a" + "b"`: "!1", `"a" - "b"`: "!1", `"a" * "b"`: "!1", "true + true": "!1", "true - false": "!1", "true * true": "!1", "1 + true": "!1", "[1] + [2]": "!1", "[1] - [1]": "!1", "[] + []": "!1", "[] * []": "!1", "principal + principal": "!1", "principal - principal": "!1", "10.0.0.0/8 + 10.0.0.0/8": "!1", "10.0.0.0/8 - 10.0.0.0/8": "!1", "10.0.0.0/8 * 10.0.0.0/8": "!1", "context + context": "!1", "1 + context": "!1",
		"1 + principal.hat": "!2", "principal.hat + 1": "!2", "true + principal.hat": "!2", "principal.hat + true": "!2", "principal.hat + context": "!2", "context + principal.hat": "!1", "1 + true + principal.hat": "!1", "principal.hat + (1 + true)": "!2", "true * principal.hat": "!2", "[] - principal.hat": "!2",

		`principal in User::"ann"`: "true", `principal in Group::"g"`: "true", `principal in Group::"top"`: "true", `principal in Group::"k"`: "false", `principal in User::"bob"`: "false", "principal in principal": "true", "principal in resource": "false", `User::"bob" in Group::"k"`: "true", `User::"bob" in Group::"top"`: "true", `Group::"g" in principal`: "false", `Group::"top" in Group::"top"`: "true", `Group::"top" in Group::"g"`: "false", `resource in Folder::"h"`: "true", `resource in Folder::"f"`: "true", `resource in Folder::"g"`: "true", `Folder::"g" in Folder::"g"`: "true", `Folder::"g" in Folder::"f"`: "true", `Folder::"f" in Doc::"d"`: "false", `Self::"s" in Self::"s"`: "true", `action in Action::"read"`: "true", `action in Action::"view"`: "true", `action in Action::"write"`: "false", `Zoo::"z" in Zoo::"z"`: "true", `Zoo::"z" in Zoo::"y"`: "false", "resource.lost in resource.lost": "true", "resource.owner in principal": "true",
		"principal in []": "false", "principal in resource.none": "false", `principal in [User::"ann"]`: "true", `principal in [Group::"top"]`: "true", `principal in [Group::"k", Zoo::"z"]`: "false", `principal in [Zoo::"z", Group::"g"]`: "true", `principal in [Group::"g", Zoo::"z"]`: "true", "principal in resource.readers": "true", "principal in context.near": "false", `User::"bob" in context.near`: "true", "resource in resource.readers": "false",
		"principal in resource.mixed": "!1", `principal in [Group::"g", 5]`: "!1", `principal in [5, Group::"g"]`: "!1", `principal in [5]`: "!1", "principal in [true]": "!1", `principal in ["g"]`: "!1", `principal in [User::"ann", "a"]`: "!1", "principal in 5": "!1", `principal in "g"`: "!1", "principal in true": "!1", "principal in @5": "!1", "principal in context": "!1", "5 in principal": "!1", "5 in 5": "!1", "5 in [5]": "!1", "5 in []": "!1", "[] in []": "!1", "[] in principal": "!1", `[User::"ann"] in [User::"ann"]`: "!1", `[User::"ann"] in principal`: "!1", `"a" in "a"`: "!1", "10.1.0.0/16 in 10.0.0.0/8": "!1", "context in principal": "!1", "true in principal": "!1", "principal.hat in principal": "!2", "principal in principal.hat": "!2", "5 in principal.hat": "!2", "principal.hat in 5": "!2",

		"[1, 2] contains 1": "true", "[1, 2] contains 2": "true", "[1, 2] contains 3": "false", "[] contains 1": "false", "resource.none contains 1": "false", "[1] contains true": "false", "[1] contains 1.0000": "false", `["1"] contains 1`: "false", "[1] contains @1": "false", "resource.list contains 2": "true", `resource.mixed contains "a"`: "true", "resource.mixed contains 1": "true", "resource.mixed contains principal": "true", "resource.mixed contains 2": "false", "resource.readers contains principal": "true", `resource.readers contains Group::"g"`: "false", "resource.readers contains resource": "false", "context.set contains context.n": "true", "[true] contains true": "true", "[true] contains false": "false", "[10.0.0.0/8] contains 10.1.0.0/16": "false", "[10.0.0.0/8] contains 10.0.0.0/8": "true", "[@1] contains @1": "true", "[1.5000] contains resource.pay": "true",
		"[1] contains [1]": "!1", "[1] contains []": "!1", "[] contains []": "!1", "resource.readers contains resource.readers": "!1", "1 contains 1": "!1", "1 contains [1]": "!1", `"ab" contains "a"`: "!1", "principal contains principal": "!1", "true contains true": "!1", "10.0.0.0/8 contains 10.1.0.0/16": "!1", "context contains 1": "!1", "[1] contains context": "!1", "principal.hat contains 1": "!2", "[1] contains principal.hat": "!2", "1 contains principal.hat": "!2", "principal.hat contains context": "!2", "context contains principal.hat": "!1",

		"10.1.0.0/16 within 10.0.0.0/8": "true", "10.0.0.0/8 within 10.1.0.0/16": "false", "10.0.0.0/8 within 10.0.0.0/8": "true", "11.0.0.0/8 within 10.0.0.0/8": "false", "0.0.0.0/0 within 0.0.0.0/0": "true", "255.255.255.255/32 within 0.0.0.0/0": "true", "0.0.0.0/0 within 255.255.255.255/32": "false", "10.0.0.0/7 within 10.0.0.0/8": "false", "11.0.0.0/8 within 10.0.0.0/7": "true", "12.0.0.0/8 within 10.0.0.0/7": "false", "resource.home within context.from": "true", "context.from within resource.home": "false",
		"1 within 1": "!1", "1 within 10.0.0.0/8": "!1", "10.0.0.0/8 within 1": "!1", "true within true": "!1", `"a" within "a"`: "!1", "principal within principal": "!1", "[10.0.0.0/8] within 10.0.0.0/8": "!1", "10.0.0.0/8 within [10.0.0.0/8]": "!1", "[10.0.0.0/8] within [10.0.0.0/8]": "!1", "[] within []": "!1", "@1 within @1": "!1", "context within 10.0.0.0/8": "!1", "10.0.0.0/8 within context": "!1", "principal.hat within 1": "!2", "1 within principal.hat": "!2",

		`"a" like "a"`: "true", `"a" like "b"`: "false", `"a" like "*"`: "true", `"" like ""`: "true", `"" like "*"`: "true", `"a" like ""`: "false", `"Ann" like "A*n"`: "true", `resource.title like "A*"`: "true", `resource.title like "a*"`: "false", `context.word like "a\\*b"`: "true", `context.word like "a\\\\*b"`: "false", `principal.name like "*nn"`: "true", `principal.name like "n"`: "false",
		`5 like "*"`: "!1", `true like "*"`: "!1", `principal like "*"`: "!1", `[] like "*"`: "!1", `["a"] like "*"`: "!1", `@5 like "*"`: "!1", `10.0.0.0/8 like "*"`: "!1", `1.0000 like "*"`: "!1", `context like "*"`: "!1", `principal.hat like "*"`: "!2",

		"principal is User": "true", "principal is Doc": "false", "principal is user": "false", "principal is Use": "false", "principal is Users": "false", "principal is ann": "false", "resource is Doc": "true", "action is Action": "true", "action is User": "false", `Zoo::"z" is Zoo`: "true", "resource.lost is User": "true", "resource.owner is User": "true", "context.who is User": "true",
		"5 is User": "!1", "true is bool": "!1", `"User" is User`: "!1", "[] is User": "!1", `[User::"ann"] is User`: "!1", "resource.readers is User": "!1", "@5 is User": "!1", "1.0000 is User": "!1", "10.0.0.0/8 is User": "!1", "context is User": "!1", "principal.hat is User": "!2",
	}
}

// deskKids are expressions that give, at the desk, each kind of value and each fault.
func deskKids() []string {
	return []string{
		"true", "false", "resource.yes", "resource.no", "0", "1", "context.n", "9223372036854775807", "-9223372036854775808", `""`, `"a"`, "resource.title", `"User"`, "principal", "action", "resource", "resource.lost", `Group::"top"`, `Zoo::"z"`, "1.0000", "resource.pay", "-922337203685477.5808", "0.0.0.0/0", "resource.home", "10.0.0.0/8", "@0", "@1", "resource.when",
		"[]", "resource.none", "[1]", "[true]", `["a"]`, "resource.readers", `[Group::"top"]`, "resource.mixed", "[0.0.0.0/0]", "context", "principal.hat", "1 + true",
	}
}

// deskDrawer draws expressions that mostly give something at the desk.
type deskDrawer struct {
	from *rand.Rand
}

// deskLeaves are texts that give a value of that form; those of `none` go wrong.
func deskLeaves(form string) []string {
	return map[string][]string{
		"bool": {"true", "false", "resource.yes", "resource.no", "context.ok"},
		"num":  {"0", "1", "-1", "context.n", "principal.age", "resource.num", "action.level", "9223372036854775807", "-9223372036854775808", "4294967296"},
		"text": {`""`, `"a"`, `"Ann"`, "principal.name", "resource.title", "context.word"},
		"ref":  {"principal", "action", "resource", "resource.owner", "resource.lost", "context.who", "principal.boss", `Folder::"g"`, `Group::"top"`, `Self::"s"`, `Zoo::"z"`},
		"dec":  {"0.0000", "1.5000", "resource.pay", "context.rate", "922337203685477.5807"},
		"addr": {"0.0.0.0/0", "10.0.0.0/8", "10.1.2.0/24", "resource.home", "context.from"},
		"time": {"@0", "@5", "resource.when", "context.due"},
		"set":  {"[]", "[1, 2]", `["a", 1]`, "resource.list", "resource.none", "resource.readers", "resource.mixed", "context.near", "context.set", `[Group::"top", Zoo::"z"]`, `[Group::"g"]`},
		"none": {"principal.hat", "context", "resource.lost.age", "context.zip", "principal.boss.boss"},
	}[form]
}

func (d deskDrawer) form() string {
	return oneOf(d.from, []string{"bool", "bool", "num", "text", "ref", "dec", "addr", "time", "set"})
}

// test draws what mostly gives a bool.
func (d deskDrawer) test(within int) []impl.Expr {
	kid := func(form string) []impl.Expr { return d.draw(form, within-1) }
	order := oneOf(d.from, []string{"num", "text", "dec", "time"})
	switch d.from.Intn(11) {
	case 0:
		return notExpr(kid("bool"))
	case 1, 2, 3:
		return exprOf(oneOf(d.from, []int{impl.ExprAnd, impl.ExprOr}), "", kid("bool"), kid("bool"))
	case 4:
		form := d.form()
		return exprOf(impl.ExprSame, "", kid(form), kid(form))
	case 5:
		return exprOf(oneOf(d.from, []int{impl.ExprLess, impl.ExprMost}), "", kid(order), kid(order))
	case 6:
		return exprOf(impl.ExprIn, "", kid("ref"), kid(oneOf(d.from, []string{"ref", "set"})))
	case 7:
		return exprOf(impl.ExprContains, "", kid("set"), kid(d.form()))
	case 8:
		return exprOf(impl.ExprWithin, "", kid("addr"), kid("addr"))
	case 9:
		return exprOf(impl.ExprLike, oneOf(d.from, []string{"", "*", "a*", "*n*", "a\\*b"}), kid("text"))
	}
	if d.from.Intn(2) == 0 {
		return exprOf(impl.ExprIs, oneOf(d.from, []string{"User", "Doc", "Zoo"}), kid("ref"))
	}
	return exprOf(impl.ExprHas, oneOf(d.from, []string{"age", "boss", "hat", "n"}), oneOf(d.from, [][]impl.Expr{kid("ref"), varExpr("context")}))
}

// draw draws what mostly gives a value of that form, with at most so many nodes within each other, or a few more.
func (d deskDrawer) draw(form string, within int) []impl.Expr {
	switch d.from.Intn(40) {
	case 0:
		form = d.form()
	case 1:
		form = "none"
	}
	pick := d.from.Intn(10)
	kid := func() []impl.Expr { return d.draw(form, within-1) }
	switch {
	case within <= 1 || pick == 0 || form == "none":
	case pick == 1:
		return ifExpr(d.draw("bool", within-1), kid(), kid())
	case form == "bool":
		return d.test(within)
	case pick <= 6 && (form == "num" || form == "dec"):
		return exprOf(oneOf(d.from, []int{impl.ExprPlus, impl.ExprMinus}), "", kid(), kid())
	case pick == 7 && form == "num":
		return exprOf(impl.ExprTimes, "", kid(), kid())
	case pick == 8 && (form == "num" || form == "dec"):
		return negExpr(kid())
	case pick == 9 && form == "num":
		return getExpr(d.draw("ref", within-1), "age")
	}
	return exprText(oneOf(d.from, deskLeaves(form)))
}

// headsAt are heads with whether they match the ref at the desk.
func headsAt(ref string) map[impl.Head]bool {
	own := refsOf(ref)[0]
	heads := map[impl.Head]bool{anyHead(): true, {Kind: impl.HeadSlot}: false, {Kind: impl.HeadInSlot}: false}
	for other := range deskAncestors() {
		atom := refsOf(other)[0]
		heads[impl.Head{Kind: impl.HeadSame, Atom: atom}] = other == ref
		heads[impl.Head{Kind: impl.HeadIn, Atom: atom}] = slices.Contains(strings.Fields(deskAncestors()[ref]), other)
		heads[isHead(atom.Type)] = atom.Type == own.Type
	}
	heads[isHead(own.Text)] = false
	heads[isHead(own.Type+"s")] = false
	return heads
}

// deskPolicy is a policy that does as told at the desk: `applies`, `faulty` or nothing.
type deskPolicy struct {
	policy impl.Policy
	does   string
}

// deskPolicies are policies of every sort, each in two: one that permits, one that forbids.
func deskPolicies() []deskPolicy {
	in := func(typ string, text string) impl.Head { return refHead(impl.HeadIn, typ, text) }
	same := func(typ string, text string) impl.Head { return refHead(impl.HeadSame, typ, text) }
	slot := impl.Head{Kind: impl.HeadSlot}
	var all []deskPolicy
	add := func(does string, principal impl.Head, action impl.Head, resource impl.Head, when string) {
		for _, permit := range []bool{true, false} {
			p := impl.Policy{Permit: permit, Principal: principal, Action: action, Resource: resource}
			if when != "" {
				p.When = exprText(when)
			}
			all = append(all, deskPolicy{p, does})
		}
	}
	every := anyHead()
	add("applies", every, every, every, "")
	add("applies", in("Group", "top"), in("Action", "read"), in("Folder", "h"), "")
	add("applies", same("User", "ann"), isHead("Action"), same("Doc", "d"), "principal.age < 21")
	add("", every, every, every, "false")
	add("", every, every, every, "principal has hat && principal.hat")
	add("faulty", every, every, every, "principal.hat")
	add("faulty", every, every, every, "principal.age")
	add("faulty", isHead("User"), every, isHead("Doc"), "[true]")
	add("faulty", every, in("Action", "read"), every, "1 + true == 2")
	add("", same("User", "bob"), every, every, "principal.hat")
	add("", every, same("Action", "read"), every, "principal.hat")
	add("", every, every, isHead("User"), "1")
	add("", in("Group", "k"), every, every, "")
	add("", slot, every, every, "")
	add("", every, every, impl.Head{Kind: impl.HeadInSlot}, "principal.hat")
	return all
}

// numbered gives the policies Ids that rise.
func numbered(list []deskPolicy) []impl.Policy {
	var policies []impl.Policy
	for i, d := range list {
		d.policy.Id = fmt.Sprint("p", 100+i)
		policies = append(policies, d.policy)
	}
	return policies
}

// lineOfThings is so many things, each the Parent of the one ahead; the last one has one that is not in the list. Where falling is told the line goes against the order of the refs.
func lineOfThings(many int, falling bool) []impl.Thing {
	refs := countedRefs(many + 1)
	if falling {
		slices.Reverse(refs)
	}
	var list []impl.Thing
	for i, ref := range refs[:many] {
		list = append(list, impl.Thing{Ref: ref, Parents: []impl.Atom{refs[i+1]}})
	}
	if falling {
		slices.Reverse(list)
	}
	return list
}

// fullThings are as many things with as many Parents as may be, no Parent of two, and above the first one all of them.
func fullThings() []impl.Thing {
	list := lineOfThings(impl.MaxThings, false)
	for i := range list {
		for k := range impl.MaxItems - 1 {
			list[i].Parents = append(list[i].Parents, refAtom("S", fmt.Sprint(10000+i*impl.MaxItems+k)))
		}
	}
	return list
}

// drawnThings draws things that are Parents of each other, and of some that are not there.
func drawnThings(from *rand.Rand, many int, chance int) []impl.Thing {
	refs := countedRefs(many)
	var list []impl.Thing
	for _, ref := range refs {
		t := impl.Thing{Ref: ref}
		for _, other := range refs {
			if from.Intn(chance) == 0 {
				t.Parents = append(t.Parents, other)
			}
		}
		if from.Intn(4) > 0 {
			list = append(list, t)
		}
	}
	return list
}

// variedAtom is another atom of the kind, often; refs stay what they are.
func variedAtom(from *rand.Rand, a impl.Atom) impl.Atom {
	switch a.Kind {
	case impl.BoolAtom:
		a.Num = from.Intn(2)
	case impl.NumAtom, impl.DecAtom:
		a.Num = oneOf(from, []int{math.MinInt, -2, -1, 0, 1, 2, math.MaxInt})
	case impl.TextAtom:
		a.Text = oneOf(from, []string{"", "a", "ab", "b"})
	case impl.TimeAtom:
		a.Num = oneOf(from, []int{-impl.MaxTime, 0, 1, 2, impl.MaxTime})
	case impl.AddrAtom:
		a = oneOf(from, []impl.Atom{addrAtom(0, 0), addrAtom(0, 32), addrAtom(10<<24, 8)})
	}
	return a
}

// varied is the world with other values of the same kinds.
func (w toldWorld) varied(from *rand.Rand) toldWorld {
	vary := func(values []impl.Value) {
		for i, v := range values {
			if v.Kind == impl.ValueAtom {
				values[i].Atom = variedAtom(from, v.Atom)
			}
			var items []impl.Atom
			for _, a := range v.Items {
				items = append(items, variedAtom(from, a), variedAtom(from, a))
			}
			if v.Kind == impl.ValueSet && from.Intn(4) > 0 {
				values[i] = impl.SetOf(items)
			} else if v.Kind == impl.ValueSet {
				values[i] = setValue()
			}
		}
	}
	for _, t := range w.things {
		vary(t.Values)
	}
	vary(w.request.Values)
	return w
}
