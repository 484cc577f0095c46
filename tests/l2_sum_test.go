package tests

import (
	"bytes"
	"encoding/hex"
	"math"
	"slices"
	"strings"
	"testing"

	"loop.example/g00036/impl"
)

func TestConstantsOfSums(t *testing.T) {
	got := []int{impl.Prime, impl.Order, impl.Base, impl.MaxData, impl.MaxShares}
	if want := []int{2147483579, 1073741789, 4, 20000, 20}; !slices.Equal(got, want) {
		t.Errorf("constants: got %v, want %v", got, want)
	}
}

// The digests of these tests were worked out apart from the program and from its tests' own words.
func TestDigestsAsToldElsewhere(t *testing.T) {
	var counted []byte
	for c := range 256 {
		counted = append(counted, byte(c))
	}
	for _, c := range []struct {
		data []byte
		want string
	}{
		{nil, "2a9529026630bd2beeec57157cbe6d59"},
		{[]byte("a"), "d270ac3624eff477f086701ba841b075"},
		{[]byte("abc"), "4538017db2d47d3d9450004e75333507"},
		{[]byte{0}, "c9dca8324b522b5cf7e36b4c017edd4f"},
		{[]byte{0, 0}, "6dd8fd7acd47d6308b01527cbbf9df05"},
		{bytes.Repeat([]byte{255}, 256), "45f48a70b99e8176dced2527327cc705"},
		{counted, "2686d6578ba5a804a5e5e9553b652816"},
		{bytes.Repeat([]byte("x"), impl.MaxData), "f3b7ea6d510d007760230e0ff5702777"},
	} {
		if got := hex.EncodeToString(impl.Digest(c.data)); got != c.want {
			t.Errorf("Digest of %d bytes %.8q: got %s, want %s", len(c.data), c.data, got, c.want)
		}
	}
	for _, c := range []struct {
		key, data []byte
		want      string
	}{
		{nil, nil, "860619248d45756a4b4e067dc6f56c32"},
		{[]byte("key"), []byte("data"), "3c823c4a10d6661eda8f4601cfbc142e"},
		{[]byte("data"), []byte("key"), "4c9d36451c13304f74ed72088d2fde26"},
		{bytes.Repeat([]byte{255}, impl.MaxData), make([]byte, impl.MaxData), "45c2ec08f045ff6be234e45b5a854e4b"},
	} {
		if got := hex.EncodeToString(impl.Mac(c.key, c.data)); got != c.want {
			t.Errorf("Mac of %.8q and %.8q: got %s, want %s", c.key, c.data, got, c.want)
		}
	}
}

func TestDigestByItsWords(t *testing.T) {
	for _, data := range goodData() {
		if got, want := impl.Digest(data), digestByWords(data); !bytes.Equal(got, want) {
			t.Errorf("Digest of %d bytes %.8q: got %x, want %x", len(data), data, got, want)
		}
	}
	for c := range 256 {
		data := []byte{byte(c)}
		if got, want := impl.Digest(data), digestByWords(data); !bytes.Equal(got, want) {
			t.Errorf("Digest of byte %d: got %x, want %x", c, got, want)
		}
	}
	for _, data := range longData() {
		if got := impl.Digest(data); len(got) != 0 {
			t.Errorf("Digest of %d bytes: got %x, want none", len(data), got)
		}
	}
}

func TestMacByItsWords(t *testing.T) {
	all := goodData()
	for i, key := range all {
		data := all[(i*7+3)%len(all)]
		if got, want := impl.Mac(key, data), macByWords(key, data); !bytes.Equal(got, want) {
			t.Errorf("Mac of %.8q and %.8q: got %x, want %x", key, data, got, want)
		}
	}
	for _, long := range longData() {
		if len(impl.Mac(long, nil)) != 0 || len(impl.Mac(nil, long)) != 0 || len(impl.Mac(long, long)) != 0 {
			t.Errorf("Mac with %d bytes: want none", len(long))
		}
	}
}

func TestPublicOf(t *testing.T) {
	for _, secret := range goodSecrets() {
		if got, want := impl.PublicOf(secret), powerByWords(4, secret, 2147483579); got != want {
			t.Errorf("PublicOf(%d): got %d, want %d", secret, got, want)
		}
	}
	for secret, want := range map[int]int{1: 4, 2: 16, 77: 1855757464, 1073741788: 536870895, 536870895: 2147483577} {
		if got := impl.PublicOf(secret); got != want {
			t.Errorf("PublicOf(%d): got %d, want %d", secret, got, want)
		}
	}
	for _, secret := range badSecrets() {
		if got := impl.PublicOf(secret); got != 0 {
			t.Errorf("PublicOf(%d): got %d, want 0", secret, got)
		}
	}
}

func TestSignaturesAsToldElsewhere(t *testing.T) {
	for _, c := range []struct {
		secret int
		data   []byte
		want   impl.Sig
	}{
		{1, nil, impl.Sig{R: 126901846, Z: 134110259}},
		{2, []byte{0}, impl.Sig{R: 1147600265, Z: 110182530}},
		{77, []byte("hello"), impl.Sig{R: 1748763262, Z: 927867214}},
		{1073741788, []byte("hello"), impl.Sig{R: 1645984909, Z: 595334201}},
		{123456789, bytes.Repeat([]byte("z"), impl.MaxData), impl.Sig{R: 678794275, Z: 541177194}},
	} {
		if got := impl.Sign(c.secret, c.data); got != c.want {
			t.Errorf("Sign(%d, %.8q): got %+v, want %+v", c.secret, c.data, got, c.want)
		}
	}
}

func TestWhatIsSignedIsVerified(t *testing.T) {
	all := goodData()
	for i, secret := range goodSecrets() {
		public := impl.PublicOf(secret)
		for _, data := range [][]byte{all[i%len(all)], all[(3*i+9)%len(all)], []byte("hello")} {
			sig := impl.Sign(secret, data)
			if want := signByWords(secret, data); sig != want {
				t.Errorf("Sign(%d, %.8q): got %+v, want %+v", secret, data, sig, want)
			}
			if !impl.Verify(public, data, sig) {
				t.Errorf("Verify(%d, %.8q, %+v): want true", public, data, sig)
			}
			other := append(bytes.Clone(data), 0)[:min(len(data)+1, impl.MaxData)]
			other[0] ^= 1
			if impl.Verify(public, other, sig) || impl.Verify(impl.PublicOf(secret%(impl.Order-1)+1), data, sig) {
				t.Errorf("Verify of %+v: true of other data, or of another's number", sig)
			}
		}
	}
}

func TestSignTakesNoOthers(t *testing.T) {
	for _, secret := range badSecrets() {
		if got := impl.Sign(secret, []byte("hello")); got != (impl.Sig{}) {
			t.Errorf("Sign(%d): got %+v, want none", secret, got)
		}
	}
	for _, long := range longData() {
		if got := impl.Sign(77, long); got != (impl.Sig{}) {
			t.Errorf("Sign of %d bytes: got %+v, want none", len(long), got)
		}
	}
}

func TestOneZAlone(t *testing.T) {
	from := drawn()
	for _, secret := range goodSecrets() {
		data := drawnBytes(from, 9)
		public, sig := impl.PublicOf(secret), impl.Sign(secret, data)
		others := append(oddInts(), sig.Z-1, sig.Z+1, impl.Order-sig.Z, -sig.Z, sig.Z-impl.Order, sig.Z+impl.Order, sig.Z+2*impl.Order, sig.Z+1<<32)
		for range 200 {
			others = append(others, from.Intn(impl.Order))
		}
		for _, z := range others {
			if z != sig.Z && impl.Verify(public, data, impl.Sig{R: sig.R, Z: z}) {
				t.Errorf("secret %d: Z %d is taken as well as %d", secret, z, sig.Z)
			}
		}
	}
}

// A Z beyond its ends would be as good as the one within, for Base has just Order powers.
func TestVerifyAtTheEndsOfZ(t *testing.T) {
	data, k := []byte("hello"), 12345
	r := powerByWords(impl.Base, k, impl.Prime)
	inverse := powerByWords(boundByWords(r, data), -1, impl.Order)
	for _, z := range []int{0, 1, impl.Order - 1} {
		secret := timesByWords(z-k, inverse, impl.Order)
		public := impl.PublicOf(secret)
		if !impl.Verify(public, data, impl.Sig{R: r, Z: z}) {
			t.Errorf("Z %d: want true", z)
		}
		for _, beyond := range []int{z - impl.Order, z + impl.Order, -1, math.MinInt} {
			if impl.Verify(public, data, impl.Sig{R: r, Z: beyond}) {
				t.Errorf("Z %d: want false", beyond)
			}
		}
	}
}

// 1 is the power 0 of Base; Prime - 2 is its power (Order + 1) / 2; Prime - 1 is none.
func TestVerifyAtTheEndsOfR(t *testing.T) {
	data, secret := []byte("hello"), 77
	public := impl.PublicOf(secret)
	for _, k := range []int{0, (impl.Order + 1) / 2} {
		sig := sigWith(secret, k, data)
		if sig.R != 1 && sig.R != impl.Prime-2 {
			t.Fatalf("R %d is at no end", sig.R)
		}
		if !impl.Verify(public, data, sig) {
			t.Errorf("R %d: want true", sig.R)
		}
		for _, beyond := range []int{sig.R + impl.Prime, sig.R - impl.Prime, sig.R + 1<<32, sig.R - 1<<32} {
			low := int(uint32(beyond))
			z := (k + timesByWords(boundByWords(low, data), secret, impl.Order)) % impl.Order
			if impl.Verify(public, data, impl.Sig{R: beyond, Z: z}) {
				t.Errorf("R %d: want false", beyond)
			}
		}
	}
	for _, r := range []int{0, -1, impl.Prime - 1, impl.Prime} {
		for z := range 50 {
			if impl.Verify(public, data, impl.Sig{R: r, Z: z}) {
				t.Errorf("R %d: want false", r)
			}
		}
	}
}

// Three times -2^62 wraps round to 2^62, which is the power 31 of Base: a product that is not held within its limits would do.
func TestVerifyTakesNoRThatWrapsRound(t *testing.T) {
	data := []byte("hello")
	for secret := 1; secret <= 50; secret++ {
		if impl.Verify(impl.PublicOf(secret), data, impl.Sig{R: -1 << 62, Z: 31}) {
			t.Errorf("secret %d: R -2^62: want false", secret)
		}
	}
}

// evenBound finds a k whose e is even, so that a number and its negative have one power e.
func evenBound(data []byte) (int, int) {
	for k := 1; ; k++ {
		if e := boundByWords(powerByWords(impl.Base, k, impl.Prime), data); e%2 == 0 {
			return k, e
		}
	}
}

// Each of these would be taken if nothing but the last thing was asked of it.
func TestVerifyTakesNoOtherPublicNumber(t *testing.T) {
	data, secret := []byte("hello"), 77
	k, e := evenBound(data)
	r := powerByWords(impl.Base, k, impl.Prime)
	own := sigWith(secret, k, data)
	public := impl.PublicOf(secret)
	if !impl.Verify(public, data, own) {
		t.Fatalf("its own public number is not taken")
	}
	for _, c := range []struct {
		public int
		sig    impl.Sig
	}{
		{1, impl.Sig{R: r, Z: k}},
		{2, impl.Sig{R: r, Z: (k + e/2) % impl.Order}},
		{impl.Prime - 1, impl.Sig{R: r, Z: k}},
		{impl.Prime - public, own},
		{impl.Prime + public, own},
		{public - impl.Prime, own},
		{-public, own},
		{1 + impl.Prime, impl.Sig{R: r, Z: k}},
	} {
		if !sameInGroup(c.public, data, c.sig) {
			t.Fatalf("public number %d: the case is none", c.public)
		}
		if impl.Verify(c.public, data, c.sig) {
			t.Errorf("public number %d: want false", c.public)
		}
	}
	for _, none := range []int{0, impl.Prime, 2 * impl.Prime} {
		for z := range 50 {
			if impl.Verify(none, data, impl.Sig{R: r, Z: z}) {
				t.Errorf("public number %d: want false", none)
			}
		}
	}
}

func TestVerifyAtTheEndsOfPublicNumbers(t *testing.T) {
	data := []byte("hello")
	for _, secret := range []int{1, (impl.Order + 1) / 2, impl.Order - 1} {
		if public := impl.PublicOf(secret); !impl.Verify(public, data, sigWith(secret, 5, data)) {
			t.Errorf("public number %d: want true", public)
		}
	}
	for _, public := range append(oddInts(), impl.PublicOf(5)) {
		for _, sig := range []impl.Sig{{}, {R: 1, Z: 0}, {R: 4, Z: 1}, {R: impl.Prime - 2, Z: impl.Order - 1}, impl.Sign(5, data)} {
			if got, want := impl.Verify(public, data, sig), verifyByWords(public, data, sig); got != want {
				t.Errorf("Verify(%d, %+v): got %v", public, sig, got)
			}
		}
	}
}

// The second signature is the one of data whose digest is empty, as that of too many bytes is.
func TestVerifyTakesNoLongData(t *testing.T) {
	r := powerByWords(impl.Base, 5, impl.Prime)
	e := numberByWords(digestByWords(fourBytes(r))) % impl.Order
	empty := impl.Sig{R: r, Z: (5 + timesByWords(e, 77, impl.Order)) % impl.Order}
	for _, long := range longData() {
		for _, sig := range []impl.Sig{sigWith(77, 5, long), empty} {
			if impl.Verify(impl.PublicOf(77), long, sig) {
				t.Errorf("%d bytes, %+v: want false", len(long), sig)
			}
		}
	}
}

func TestDataComeBackFromTheirArmour(t *testing.T) {
	for _, data := range goodData() {
		text := impl.Armor(data)
		if want := armorByWords(data); text != want {
			t.Errorf("Armor of %d bytes: got %.40s, want %.40s", len(data), text, want)
		}
		if back, ok := impl.Unarmor(text); !ok || !bytes.Equal(back, data) {
			t.Errorf("Unarmor(%.40s): got %.20x, %v", text, back, ok)
		}
	}
	for _, long := range longData() {
		if got := impl.Armor(long); got != "" {
			t.Errorf("Armor of %d bytes: got %.40s, want none", len(long), got)
		}
	}
	for data, want := range map[string]string{"": "", "\x00": "00", "\xff": "vs", "f": "co", "fo": "cpng", "foo": "cpnmu", "foob": "cpnmuog", "fooba": "cpnmuoj1", "foobar": "cpnmuoj1e8", "\xff\x00": "vs00"} {
		if got := impl.Armor([]byte(data)); got != want {
			t.Errorf("Armor(%q): got %s, want %s", data, got, want)
		}
	}
}

func TestUnarmorTakesNoOthers(t *testing.T) {
	for _, text := range badArmor() {
		if data, ok := impl.Unarmor(text); ok || len(data) != 0 {
			t.Errorf("Unarmor(%.40q) of %d bytes: got %.20x, %v", text, len(text), data, ok)
		}
	}
	for length := range 200 {
		fits := !slices.Contains([]int{1, 3, 6}, length%8)
		if data, ok := impl.Unarmor(strings.Repeat("0", length)); ok != fits || ok && len(data) != length*5/8 {
			t.Errorf("Unarmor of %d letters 0: got %d bytes, %v", length, len(data), ok)
		}
	}
}

// For each byte just one text of two letters is its armour, whatever the bytes of the text.
func TestShortTextsAreReadAsWhatTheyAre(t *testing.T) {
	armors := map[string]int{}
	for c := range 256 {
		armors[armorByWords([]byte{byte(c)})] = c + 1
	}
	for first := range 256 {
		if data, ok := impl.Unarmor(string([]byte{byte(first)})); ok || len(data) != 0 {
			t.Errorf("Unarmor of byte %d: got %x, %v", first, data, ok)
		}
		for second := range 256 {
			text := string([]byte{byte(first), byte(second)})
			data, ok := impl.Unarmor(text)
			want := armors[text]
			if ok != (want > 0) || ok && !bytes.Equal(data, []byte{byte(want - 1)}) || !ok && len(data) != 0 {
				t.Errorf("Unarmor(%q): got %x, %v", text, data, ok)
			}
		}
	}
}

// A text of each length, with one letter changed: only those that differ in bits of the data are armours.
func TestChangedArmour(t *testing.T) {
	for length := 1; length <= 11; length++ {
		text := armorByWords(drawnBytes(drawn(), length))
		spare := len(text)*5 - length*8
		for i := range text {
			for c := range 256 {
				other := []byte(text)
				other[i] = byte(c)
				letter := strings.IndexByte(armorAlphabet, byte(c))
				want := letter >= 0 && (i < len(text)-1 || letter%(1<<spare) == 0)
				data, ok := impl.Unarmor(string(other))
				if ok != want || ok && armorByWords(data) != string(other) {
					t.Errorf("Unarmor(%q): got %x, %v", other, data, ok)
				}
			}
		}
	}
}

func TestSharesAsToldElsewhere(t *testing.T) {
	long := bytes.Repeat([]byte("s"), impl.MaxData)
	for _, c := range []struct {
		secret, many, need int
		salt               []byte
		last               impl.Share
	}{
		{12345, 1, 1, []byte("salt"), impl.Share{X: 1, Y: 12345}},
		{12345, 5, 3, []byte("salt"), impl.Share{X: 5, Y: 560022317}},
		{0, 1, 1, nil, impl.Share{X: 1, Y: 0}},
		{1073741788, 3, 3, nil, impl.Share{X: 3, Y: 288910298}},
		{1073741788, 20, 20, long, impl.Share{X: 20, Y: 853878806}},
	} {
		got := impl.Split(c.secret, c.many, c.need, c.salt)
		if len(got) != c.many || got[c.many-1] != c.last {
			t.Errorf("Split(%d, %d, %d): got %v, want %v at last", c.secret, c.many, c.need, got, c.last)
		}
	}
}

func TestSplitByItsWords(t *testing.T) {
	for many := -1; many <= impl.MaxShares+1; many++ {
		for need := -1; need <= many+1; need++ {
			for _, secret := range []int{0, 1, 12345, impl.Order - 1} {
				salt := []byte{byte(many), byte(secret)}
				got := impl.Split(secret, many, need, salt)
				var want []impl.Share
				if need >= 1 && need <= many && many <= 20 {
					want = splitByWords(secret, many, need, salt)
				}
				if !slices.Equal(got, want) {
					t.Errorf("Split(%d, %d, %d): got %v, want %v", secret, many, need, got, want)
				}
			}
		}
	}
}

func TestSplitTakesNoOthers(t *testing.T) {
	for _, num := range oddInts() {
		if got := impl.Split(num, 3, 2, nil); len(got) != 0 && (num < 0 || num > 1073741788) {
			t.Errorf("Split of %d: got %v", num, got)
		}
		for _, other := range append(oddInts(), 5, 18) {
			good := 1 <= other && other <= num && num <= 20
			if got := impl.Split(5, num, other, nil); good != (len(got) != 0) {
				t.Errorf("Split(5, %d, %d): got %v", num, other, got)
			}
		}
	}
	for _, long := range longData() {
		if got := impl.Split(5, 3, 2, long); len(got) != 0 {
			t.Errorf("Split with %d bytes of salt: got %v", len(long), got)
		}
		if got := impl.Split(5, 1, 1, long); len(got) != 0 {
			t.Errorf("Split with %d bytes of salt that none needs: got %v", len(long), got)
		}
	}
}

// chosen are the shares whose bits are set.
func chosen(shares []impl.Share, bits int) []impl.Share {
	var out []impl.Share
	for i, s := range shares {
		if bits>>i&1 == 1 {
			out = append(out, s)
		}
	}
	return out
}

func TestAnySharesThatAreEnoughGiveTheSecretBack(t *testing.T) {
	for many := 1; many <= 6; many++ {
		for need := 1; need <= many; need++ {
			for _, secret := range []int{0, 1, 987654321, impl.Order - 1} {
				shares := impl.Split(secret, many, need, []byte{byte(many)})
				for bits := 1; bits < 1<<many; bits++ {
					some := chosen(shares, bits)
					for range 2 {
						got, ok := impl.Join(some)
						if want := joinByWords(some); !ok || got != want || len(some) >= need && got != secret {
							t.Errorf("secret %d, %d of %d: %v give %d, %v", secret, need, many, some, got, ok)
						}
						slices.Reverse(some)
					}
				}
			}
		}
	}
}

func TestManySharesGiveTheSecretBack(t *testing.T) {
	from := drawn()
	for need := 1; need <= impl.MaxShares; need++ {
		secret := from.Intn(impl.Order)
		shares := impl.Split(secret, impl.MaxShares, need, drawnBytes(from, 8))
		for range 20 {
			from.Shuffle(len(shares), func(i, j int) { shares[i], shares[j] = shares[j], shares[i] })
			for _, some := range [][]impl.Share{shares[:need], shares} {
				if got, ok := impl.Join(some); !ok || got != secret {
					t.Errorf("need %d: got %d, %v, want %d", need, got, ok, secret)
				}
			}
		}
	}
}

func TestJoinByItsWords(t *testing.T) {
	from := drawn()
	ends := []impl.Share{{X: 1, Y: 0}, {X: impl.Order - 1, Y: impl.Order - 1}, {X: 2, Y: impl.Order - 1}, {X: impl.Order - 2, Y: 0}}
	for bits := 1; bits < 16; bits++ {
		some := chosen(ends, bits)
		if got, ok := impl.Join(some); !ok || got != joinByWords(some) {
			t.Errorf("Join(%v): got %d, %v", some, got, ok)
		}
	}
	for length := 1; length <= impl.MaxShares; length++ {
		for range 20 {
			some := countedShares(length)
			for i := range some {
				some[i] = impl.Share{X: i*50000000 + 1 + from.Intn(50000000), Y: from.Intn(impl.Order)}
			}
			from.Shuffle(length, func(i, j int) { some[i], some[j] = some[j], some[i] })
			if got, ok := impl.Join(some); !ok || got != joinByWords(some) {
				t.Errorf("Join(%v): got %d, %v", some, got, ok)
			}
		}
	}
}

func TestJoinTakesNoOthers(t *testing.T) {
	for _, shares := range badShares() {
		if got, ok := impl.Join(shares); ok || got != 0 {
			t.Errorf("Join(%.80v): got %d, %v", shares, got, ok)
		}
	}
	for i := range impl.MaxShares {
		for _, bad := range []impl.Share{{X: 0, Y: 1}, {X: impl.Order, Y: 1}, {X: 99, Y: -1}, {X: 99, Y: impl.Order}, {X: i%20 + 2, Y: 1}} {
			shares := countedShares(impl.MaxShares)
			shares[i] = bad
			if bad.X == 21 {
				shares[i].X = 1
			}
			if got, ok := impl.Join(shares); ok || got != 0 {
				t.Errorf("Join with %+v at %d: got %d, %v", shares[i], i, got, ok)
			}
		}
	}
}
