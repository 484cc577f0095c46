package tests

import (
	"bytes"
	"encoding/base32"
	"math"
	"math/big"
	"math/rand"
	"strings"

	"loop.example/g00036/impl"
)

// What the document says of chapter 2, worked out in other ways than the program's: numbers of any length, and the library's letters of five bits.

const armorAlphabet = "0123456789abcdefghijklmnopqrstuv"

func bigOf(num int) *big.Int {
	return big.NewInt(int64(num))
}

// powerByWords takes a negative exponent too.
func powerByWords(base int, exponent int, modulus int) int {
	return int(new(big.Int).Exp(bigOf(base), bigOf(exponent), bigOf(modulus)).Int64())
}

func timesByWords(a int, b int, modulus int) int {
	product := new(big.Int).Mul(bigOf(a), bigOf(b))
	return int(product.Mod(product, bigOf(modulus)).Int64())
}

func fourBytes(num int) []byte {
	return []byte{byte(num % 256), byte(num / 256 % 256), byte(num / 65536 % 256), byte(num / 16777216 % 256)}
}

func numberByWords(digest []byte) int {
	return int(digest[0]) + 256*int(digest[1]) + 65536*int(digest[2]) + 16777216*int(digest[3])
}

func digestByWords(data []byte) []byte {
	a := []*big.Int{bigOf(11), bigOf(22), bigOf(33), bigOf(44)}
	m := []*big.Int{bigOf(1103515245), bigOf(69069), bigOf(1664525), bigOf(22695477)}
	all := append(append(bytes.Clone(data), fourBytes(len(data))...), 0, 0, 0, 0, 0, 0, 0, 0)
	for _, x := range all {
		for i := range a {
			a[i].Mul(a[i], m[i])
			a[i].Add(a[i], bigOf(int(x)+1))
			a[i].Add(a[i], a[(i+1)%4])
			a[i].Mod(a[i], bigOf(impl.Prime))
		}
	}
	var out []byte
	for _, num := range a {
		out = append(out, fourBytes(int(num.Int64()))...)
	}
	return out
}

func macByWords(key []byte, data []byte) []byte {
	return digestByWords(append(digestByWords(key), digestByWords(data)...))
}

// boundByWords is the e of R and the data.
func boundByWords(r int, data []byte) int {
	return numberByWords(digestByWords(append(fourBytes(r), digestByWords(data)...))) % impl.Order
}

// sigWith signs with a k that the test chooses.
func sigWith(secret int, k int, data []byte) impl.Sig {
	r := powerByWords(impl.Base, k, impl.Prime)
	z := (k + timesByWords(boundByWords(r, data), secret, impl.Order)) % impl.Order
	return impl.Sig{R: r, Z: z}
}

func signByWords(secret int, data []byte) impl.Sig {
	return sigWith(secret, 1+numberByWords(macByWords(fourBytes(secret), data))%(impl.Order-1), data)
}

func verifyByWords(public int, data []byte, sig impl.Sig) bool {
	switch {
	case len(data) > 20000, public < 2, public > 2147483578, sig.R < 1, sig.R > 2147483578, sig.Z < 0, sig.Z > 1073741788:
		return false
	case powerByWords(public, impl.Order, impl.Prime) != 1:
		return false
	}
	return sameInGroup(public, data, sig)
}

// sameInGroup is the last thing alone that Verify asks: whether both sides are alike.
func sameInGroup(public int, data []byte, sig impl.Sig) bool {
	other := timesByWords(sig.R, powerByWords(public, boundByWords(sig.R, data), impl.Prime), impl.Prime)
	return powerByWords(impl.Base, sig.Z, impl.Prime) == other
}

func armorByWords(data []byte) string {
	return base32.NewEncoding(armorAlphabet).WithPadding(base32.NoPadding).EncodeToString(data)
}

// splitByWords works each power of X out by itself.
func splitByWords(secret int, many int, need int, salt []byte) []impl.Share {
	var hiding []int
	for j := 1; j < need; j++ {
		hiding = append(hiding, numberByWords(macByWords(salt, []byte{byte(j)}))%impl.Order)
	}
	var shares []impl.Share
	for x := 1; x <= many; x++ {
		y := bigOf(secret)
		for i, c := range hiding {
			y.Add(y, new(big.Int).Mul(bigOf(c), new(big.Int).Exp(bigOf(x), bigOf(i+1), nil)))
		}
		shares = append(shares, impl.Share{X: x, Y: int(y.Mod(y, bigOf(impl.Order)).Int64())})
	}
	return shares
}

// joinByWords goes Neville's way: each two neighbouring polynomials give the one through the points of both.
func joinByWords(shares []impl.Share) int {
	order := bigOf(impl.Order)
	var at []*big.Int
	for _, s := range shares {
		at = append(at, bigOf(s.Y))
	}
	for gap := 1; gap < len(shares); gap++ {
		for i := 0; i+gap < len(shares); i++ {
			low, high := bigOf(shares[i].X), bigOf(shares[i+gap].X)
			left := new(big.Int).Mul(high, at[i])
			right := new(big.Int).Mul(low, at[i+1])
			apart := new(big.Int).Sub(high, low)
			apart.ModInverse(apart.Mod(apart, order), order)
			left.Sub(left, right)
			at[i] = left.Mod(left.Mul(left, apart), order)
		}
	}
	return int(at[0].Int64())
}

// drawn are numbers that are the same in each run.
func drawn() *rand.Rand {
	return rand.New(rand.NewSource(36))
}

func drawnBytes(from *rand.Rand, length int) []byte {
	data := make([]byte, length)
	from.Read(data)
	return data
}

// goodData are data of every sort, from none to as many as may be.
func goodData() [][]byte {
	from := drawn()
	all := [][]byte{
		nil, {}, {0}, {0, 0}, {0, 0, 0}, {1}, {255}, {255, 255, 255, 255, 255}, []byte("hello"),
		bytes.Repeat([]byte{255}, 255), bytes.Repeat([]byte{0}, 256), bytes.Repeat([]byte("ab"), 150),
		bytes.Repeat([]byte{0}, impl.MaxData), drawnBytes(from, impl.MaxData-1), drawnBytes(from, impl.MaxData),
	}
	for length := 1; length <= 40; length++ {
		all = append(all, drawnBytes(from, length))
	}
	return all
}

// longData are those beyond the limit.
func longData() [][]byte {
	return [][]byte{make([]byte, impl.MaxData+1), bytes.Repeat([]byte{255}, impl.MaxData+5), make([]byte, 1<<20)}
}

func goodSecrets() []int {
	secrets := []int{1, 2, 3, 77, 255, 256, 65536, 16777216, (impl.Order + 1) / 2, impl.Order - 2, impl.Order - 1}
	from := drawn()
	for range 20 {
		secrets = append(secrets, 1+from.Intn(impl.Order-1))
	}
	return secrets
}

// oddInts are numbers at the ends of what any of the arguments may be, and far beyond.
func oddInts() []int {
	return []int{
		math.MinInt, math.MinInt + 1, -1 << 32, -impl.Prime, -impl.Order, -20, -1, 0, 1, 2, 3, 4, 19, 20, 21, 255, 256, 257,
		impl.Order - 1, impl.Order, impl.Order + 1, impl.Prime - 2, impl.Prime - 1, impl.Prime, impl.Prime + 1,
		1 << 31, 1<<32 - 1, 1 << 32, 1<<32 + 1, math.MaxInt - 1, math.MaxInt,
	}
}

// badSecrets are those of the odd numbers that nobody may sign with.
func badSecrets() []int {
	var out []int
	for _, num := range oddInts() {
		if num < 1 || num > 1073741788 {
			out = append(out, num)
		}
	}
	return out
}

// badShares are lists of which none has a value at 0.
func badShares() [][]impl.Share {
	return [][]impl.Share{
		nil,
		{},
		countedShares(impl.MaxShares + 1),
		countedShares(3000),
		append(countedShares(impl.MaxShares), impl.Share{X: 1, Y: 1}),
		{{X: 0, Y: 5}},
		{{X: -1, Y: 5}},
		{{X: impl.Order, Y: 5}},
		{{X: impl.Order + 1, Y: 5}},
		{{X: math.MinInt, Y: 5}},
		{{X: math.MaxInt, Y: 5}},
		{{X: 5, Y: -1}},
		{{X: 5, Y: impl.Order}},
		{{X: 5, Y: math.MinInt}},
		{{X: 5, Y: math.MaxInt}},
		{{X: 1, Y: 5}, {X: 0, Y: 5}},
		{{X: 0, Y: 5}, {X: 1, Y: 5}},
		{{X: 1, Y: 5}, {X: 1, Y: 5}},
		{{X: 1, Y: 5}, {X: 1, Y: 7}},
		{{X: 1, Y: 5}, {X: 2, Y: 5}, {X: 1, Y: 5}},
		{{X: 1, Y: 5}, {X: 2, Y: 5}, {X: 2, Y: 6}},
		{{X: 1, Y: 5}, {X: impl.Order + 1, Y: 5}},
		{{X: impl.Order - 1, Y: 5}, {X: -1, Y: 5}},
		{{X: 1, Y: 5}, {X: 2, Y: 5}, {X: 3, Y: impl.Order}},
		{{X: 1, Y: -1}, {X: 2, Y: 5}, {X: 3, Y: 5}},
	}
}

func countedShares(many int) []impl.Share {
	var shares []impl.Share
	for x := 1; x <= many; x++ {
		shares = append(shares, impl.Share{X: x, Y: 7 * x})
	}
	return shares
}

// badArmor are texts that are no data's armour.
func badArmor() []string {
	all := []string{
		"v", "0", "000", "vs0", "000000", "vs0000", "000000000", "vs01", "vS00", "VS00", "01", "03", "0g00001",
		"w0", "0w", "z0", "A0", "0V", " 0", "0 ", "00 ", "00=", "00\n", "\n00", "0\x000", "\xff0", "0\xff", "\x7f0", "é", "/0", ":0", "`0", "0-",
	}
	for _, length := range []int{32001, 32002, 32003, 32005, 32008, 60000} {
		all = append(all, strings.Repeat("0", length), strings.Repeat("v", length), strings.Repeat("\xff", length))
	}
	return append(all, armorByWords(make([]byte, impl.MaxData+1)))
}
