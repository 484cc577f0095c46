package tests

import (
	"math"
	"strings"

	"loop.example/g00036/impl"
)

// told is an atom and the text that the document gives it.
type told struct {
	atom impl.Atom
	text string
}

func numAtom(num int) impl.Atom {
	return impl.Atom{Kind: impl.NumAtom, Num: num}
}

func textAtom(text string) impl.Atom {
	return impl.Atom{Kind: impl.TextAtom, Text: text}
}

func refAtom(typ string, text string) impl.Atom {
	return impl.Atom{Kind: impl.RefAtom, Type: typ, Text: text}
}

func decAtom(num int) impl.Atom {
	return impl.Atom{Kind: impl.DecAtom, Num: num}
}

func timeAtom(num int) impl.Atom {
	return impl.Atom{Kind: impl.TimeAtom, Num: num}
}

func addrAtom(first int, bits int) impl.Atom {
	return impl.Atom{Kind: impl.AddrAtom, Num: first*64 + bits}
}

func boolAtom(num int) impl.Atom {
	return impl.Atom{Kind: impl.BoolAtom, Num: num}
}

func atomValue(a impl.Atom) impl.Value {
	return impl.Value{Kind: impl.ValueAtom, Atom: a}
}

// printedBytes has each printed byte once.
func printedBytes() string {
	var all []byte
	for c := 32; c <= 126; c++ {
		all = append(all, byte(c))
	}
	return string(all)
}

// goodAtoms are good atoms, rising in the order that the document gives, each with its text.
func goodAtoms() []told {
	long := strings.Repeat("x", impl.MaxText)
	quotes := strings.Repeat("\"", impl.MaxText)
	slashes := strings.Repeat("\\", impl.MaxText)
	name := strings.Repeat("N", impl.MaxName)
	printed := strings.ReplaceAll(strings.ReplaceAll(printedBytes(), "\\", "\\\\"), "\"", "\\\"")
	return []told{
		{boolAtom(0), "false"},
		{boolAtom(1), "true"},
		{numAtom(math.MinInt), "-9223372036854775808"},
		{numAtom(-12), "-12"},
		{numAtom(-1), "-1"},
		{numAtom(0), "0"},
		{numAtom(1), "1"},
		{numAtom(10), "10"},
		{numAtom(math.MaxInt), "9223372036854775807"},
		{textAtom(""), "\"\""},
		{textAtom(" "), "\" \""},
		{textAtom(printedBytes()), "\"" + printed + "\""},
		{textAtom("\""), "\"\\\"\""},
		{textAtom(quotes), "\"" + strings.Repeat("\\\"", impl.MaxText) + "\""},
		{textAtom("\"\\"), "\"\\\"\\\\\""},
		{textAtom("::"), "\"::\""},
		{textAtom("User::\"x\""), "\"User::\\\"x\\\"\""},
		{textAtom("\\"), "\"\\\\\""},
		{textAtom(slashes), "\"" + strings.Repeat("\\\\", impl.MaxText) + "\""},
		{textAtom("a"), "\"a\""},
		{textAtom("a,b"), "\"a,b\""},
		{textAtom("a]}"), "\"a]}\""},
		{textAtom("ab"), "\"ab\""},
		{textAtom("b"), "\"b\""},
		{textAtom("true"), "\"true\""},
		{textAtom(long), "\"" + long + "\""},
		{refAtom("A", "z"), "A::\"z\""},
		{refAtom("AB", "a"), "AB::\"a\""},
		{refAtom(name, quotes[1:]+"~"), name + "::\"" + strings.Repeat("\\\"", impl.MaxText-1) + "~\""},
		{refAtom(name, long), name + "::\"" + long + "\""},
		{refAtom("User", " "), "User::\" \""},
		{refAtom("User", "::\"a"), "User::\"::\\\"a\""},
		{refAtom("User", "x y"), "User::\"x y\""},
		{refAtom("_", "\\"), "_::\"\\\\\""},
		{refAtom("false", "1"), "false::\"1\""},
		{refAtom("true", "1"), "true::\"1\""},
		{decAtom(math.MinInt), "-922337203685477.5808"},
		{decAtom(-30000), "-3.0000"},
		{decAtom(-10001), "-1.0001"},
		{decAtom(-9999), "-0.9999"},
		{decAtom(-1), "-0.0001"},
		{decAtom(0), "0.0000"},
		{decAtom(1), "0.0001"},
		{decAtom(500), "0.0500"},
		{decAtom(9999), "0.9999"},
		{decAtom(10000), "1.0000"},
		{decAtom(123456), "12.3456"},
		{decAtom(math.MaxInt), "922337203685477.5807"},
		{addrAtom(0, 0), "0.0.0.0/0"},
		{addrAtom(0, 1), "0.0.0.0/1"},
		{addrAtom(0, 32), "0.0.0.0/32"},
		{addrAtom(1, 32), "0.0.0.1/32"},
		{addrAtom(10<<24, 7), "10.0.0.0/7"},
		{addrAtom(10<<24, 8), "10.0.0.0/8"},
		{addrAtom(10<<24, 9), "10.0.0.0/9"},
		{addrAtom(10<<24+1<<16, 16), "10.1.0.0/16"},
		{addrAtom(1<<31, 1), "128.0.0.0/1"},
		{addrAtom(1<<32-2, 31), "255.255.255.254/31"},
		{addrAtom(1<<32-1, 32), "255.255.255.255/32"},
		{timeAtom(-impl.MaxTime), "@-100000000000"},
		{timeAtom(-5), "@-5"},
		{timeAtom(0), "@0"},
		{timeAtom(7), "@7"},
		{timeAtom(impl.MaxTime), "@100000000000"},
	}
}

// badAtoms are not good: another kind, a field that must be zero and is not, or a limit gone beyond by one.
func badAtoms() []impl.Atom {
	over := strings.Repeat("x", impl.MaxText+1)
	bad := []impl.Atom{
		{},
		{Kind: -1},
		{Kind: 8},
		{Kind: math.MaxInt, Num: 1},
		{Kind: math.MinInt},
		boolAtom(2),
		boolAtom(-1),
		textAtom(over),
		textAtom("a\n"),
		textAtom("\x1f"),
		textAtom("\x7f"),
		textAtom("\x80"),
		textAtom("é"),
		textAtom("\x00"),
		{Kind: impl.TextAtom, Text: "a", Num: 1},
		{Kind: impl.TextAtom, Text: "a", Type: "User"},
		refAtom("User", ""),
		refAtom("", "a"),
		refAtom("1x", "a"),
		refAtom("Us er", "a"),
		refAtom(strings.Repeat("N", impl.MaxName+1), "a"),
		refAtom("User", over),
		refAtom("User", "a\t"),
		{Kind: impl.RefAtom, Type: "User", Text: "a", Num: 1},
		timeAtom(impl.MaxTime + 1),
		timeAtom(-impl.MaxTime - 1),
		timeAtom(math.MinInt),
		timeAtom(math.MaxInt),
		addrAtom(0, 33),
		addrAtom(0, 63),
		addrAtom(1<<32, 32),
		addrAtom(1<<32, 0),
		addrAtom(1, 0),
		addrAtom(1<<31, 0),
		addrAtom(1, 31),
		addrAtom(10<<24+1, 8),
		addrAtom(11<<24, 7),
		addrAtom(-1, 32),
		{Kind: impl.AddrAtom, Num: -1},
		{Kind: impl.AddrAtom, Num: -64},
		{Kind: impl.AddrAtom, Num: math.MinInt},
		{Kind: impl.AddrAtom, Num: math.MaxInt},
	}
	for _, kind := range []int{impl.BoolAtom, impl.NumAtom, impl.DecAtom, impl.AddrAtom, impl.TimeAtom} {
		bad = append(bad, impl.Atom{Kind: kind, Text: "a"}, impl.Atom{Kind: kind, Type: "User"})
	}
	return bad
}

// badAtomTexts are texts that no atom has.
func badAtomTexts() []string {
	over := strings.Repeat("x", impl.MaxText+1)
	return []string{
		"", " ", "True", "TRUE", "tru", "truee", "true ", " true", "_", "User",
		"00", "01", "-0", "-01", "+1", "--1", "-", "1 ", " 1", "1_0", "0x1", "1e3", "٣",
		"9223372036854775808", "-9223372036854775809", "99999999999999999999999",
		"\"", "\"a", "a\"", "\"a\"b", "\"a\"\"", "\"\\\"", "\"\\a\"", "\"a\\\"", "\"a\\", "\"\\\\\\\"",
		"\"\"\"", "\"a\nb\"", "\"\x7f\"", "\"\xff\"", "\"" + over + "\"", "'a'",
		"User::", "User::a", "User::\"\"", "User::\"a", "User::a\"", "User:\"a\"", "User:::\"a\"", "User:: \"a\"",
		"::\"a\"", "1x::\"a\"", "User ::\"a\"", " User::\"a\"", "User::\"a\"\"", "User::\"\\x\"", "User::\"a\x00\"",
		"User::\"a\" ", "User::User::\"a\"", strings.Repeat("N", impl.MaxName+1) + "::\"a\"", "User::\"" + over + "\"",
		".", "1.", ".5", ".0000", "1.5", "1.00000", "1.000", "-0.0000", "-.0001", "00.0001", "01.0000", "+1.0000",
		"1.-001", "1.00.00", "1..0000", "1.00a0", "1,0000", "922337203685477.5808", "-922337203685477.5809",
		"10.0.0.1/8", "11.0.0.0/7", "0.0.0.1/31", "128.0.0.0/0", "1.2.3/8", "1.2.3.4", "1.2.3.4/", "1.2.3.4/33",
		"1.2.3.4/032", "01.2.3.4/32", "1.2.3.4.5/32", "0.1.2.3.4/32", "256.0.0.0/32", "0.0.0.256/32", "0.0.0.-1/32",
		"-1.0.0.0/32", "1.2..4/32", "1.2.3.4/-1", "1.2.3.4/64", "1.2.3.4/96", "1.2.3.4/32/32", "/", "/32", "1.2.3.4 /32",
		"+1.2.3.4/32", "1.2.3.4/+32", "4294967295/32", "1/32", "0.0.0.0/00", "18446744073709551616.0.0.0/8",
		"@", "@@1", "@01", "@-0", "@+1", "@ 1", "@1 ", "@1.0000", "@100000000001", "@-100000000001", "@true",
		"[]", "{}", "[1]", "{a:1}",
	}
}
