package tests

import (
	"bytes"
	"slices"
	"strings"
	"testing"

	"loop.example/g00036/impl"
)

// oddData are data of every sort, within the limit or not.
func oddData() [][]byte {
	return append(goodData(), longData()...)
}

// oddArmor are texts of every sort, well formed or not.
func oddArmor() []string {
	texts := append(badArmor(), oddTexts()...)
	for _, data := range goodData() {
		texts = append(texts, armorByWords(data), armorByWords(data)+"0", string(data))
	}
	return append(texts, strings.Repeat("0", 1<<20))
}

func TestSumsAnswerAtAnyData(t *testing.T) {
	all := oddData()
	for i, data := range all {
		good := len(data) <= 20000
		if got := impl.Digest(data); len(got) != 16 && good || len(got) != 0 && !good {
			t.Errorf("Digest of %d bytes: got %d", len(data), len(got))
		}
		key := all[len(all)-1-i]
		both := good && len(key) <= 20000
		if got := impl.Mac(key, data); len(got) != 16 && both || len(got) != 0 && !both {
			t.Errorf("Mac of %d and %d bytes: got %d", len(key), len(data), len(got))
		}
		if got := impl.Armor(data); good && len(got) != (len(data)*8+4)/5 || !good && got != "" {
			t.Errorf("Armor of %d bytes: got %d", len(data), len(got))
		}
	}
	for _, text := range oddArmor() {
		if data, ok := impl.Unarmor(text); ok != (armorByWords(data) == text) || !ok && len(data) != 0 {
			t.Errorf("Unarmor(%.40q): got %.20x, %v", text, data, ok)
		}
	}
}

func TestSignaturesAnswerAtAnyNumbers(t *testing.T) {
	short := [][]byte{nil, []byte("hello"), make([]byte, impl.MaxData+1)}
	for _, num := range oddInts() {
		for _, data := range short {
			good := 1 <= num && num <= 1073741788 && len(data) <= 20000
			if sig := impl.Sign(num, data); good != (sig != impl.Sig{}) {
				t.Errorf("Sign(%d, %d bytes): got %+v", num, len(data), sig)
			}
			for _, r := range oddInts() {
				for _, z := range oddInts() {
					sig := impl.Sig{R: r, Z: z}
					if impl.Verify(num, data, sig) && !verifyByWords(num, data, sig) {
						t.Errorf("Verify(%d, %d bytes, %+v): want false", num, len(data), sig)
					}
				}
			}
		}
	}
}

func TestSharesAnswerAtAnyNumbers(t *testing.T) {
	for _, secret := range oddInts() {
		for _, many := range oddInts() {
			for _, need := range oddInts() {
				good := 0 <= secret && secret <= 1073741788 && 1 <= need && need <= many && many <= 20
				got := impl.Split(secret, many, need, []byte("salt"))
				if good && len(got) != many || !good && len(got) != 0 {
					t.Errorf("Split(%d, %d, %d): got %v", secret, many, need, got)
				}
			}
		}
	}
	for _, x := range oddInts() {
		for _, y := range oddInts() {
			good := 1 <= x && x <= 1073741788 && 0 <= y && y <= 1073741788
			if got, ok := impl.Join([]impl.Share{{X: x, Y: y}}); ok != good || good && got != y || !good && got != 0 {
				t.Errorf("Join of X %d, Y %d: got %d, %v", x, y, got, ok)
			}
			impl.Join([]impl.Share{{X: x, Y: 5}, {X: y, Y: 5}, {X: x, Y: y}})
		}
	}
}

// roomy copies data into the middle of a longer list, so that a write behind its end would be seen as well.
func roomy(data []byte) ([]byte, []byte) {
	whole := append(bytes.Clone(data), bytes.Repeat([]byte("behind"), 9)...)
	return whole[:len(data)], whole
}

func TestDataStayAsTheyWere(t *testing.T) {
	for _, told := range oddData() {
		data, whole := roomy(told)
		key, wholeKey := roomy(told)
		before := bytes.Clone(whole)
		sig := impl.Sign(77, data)
		impl.Verify(impl.PublicOf(77), data, sig)
		impl.Digest(data)
		impl.Mac(key, data)
		impl.Armor(data)
		impl.Split(77, 5, 3, key)
		if !bytes.Equal(whole, before) || !bytes.Equal(wholeKey, before) {
			t.Errorf("%d bytes of data changed", len(told))
		}
	}
}

func TestSharesStayAsTheyWere(t *testing.T) {
	all := append(badShares(), countedShares(1), countedShares(5), countedShares(impl.MaxShares))
	for _, told := range all {
		whole := append(slices.Clone(told), countedShares(9)...)
		shares := whole[:len(told)]
		slices.Reverse(shares)
		before := slices.Clone(whole)
		impl.Join(shares)
		if !slices.Equal(whole, before) {
			t.Errorf("shares changed: %.80v, before %.80v", whole, before)
		}
	}
}

// fill writes one byte all over a list and over the room behind it.
func fill(list []byte, x byte) {
	list = list[:cap(list)]
	for i := range list {
		list[i] = x
	}
}

func TestDigestsShareNothing(t *testing.T) {
	for _, told := range goodData() {
		for _, ask := range []func(data []byte) []byte{
			impl.Digest,
			func(data []byte) []byte { return impl.Mac(data, told) },
			func(data []byte) []byte { return impl.Mac(told, data) },
		} {
			data, whole := roomy(told)
			first := ask(data)
			kept := bytes.Clone(first)
			fill(whole, 'x')
			if !bytes.Equal(first, kept) {
				t.Errorf("an answer changed with its %d bytes", len(told))
			}
			copy(data, told)
			before := bytes.Clone(whole)
			fill(first, 'y')
			if !bytes.Equal(whole, before) {
				t.Errorf("%d bytes changed with the answer", len(told))
			}
			if second := ask(data); !bytes.Equal(second, kept) {
				t.Errorf("an answer of %d bytes changed with an earlier one", len(told))
			}
		}
	}
}

func TestDataFromArmourShareNothing(t *testing.T) {
	for _, told := range goodData() {
		text := armorByWords(told)
		first, _ := impl.Unarmor(text)
		second, _ := impl.Unarmor(text)
		fill(first, 'y')
		third, ok := impl.Unarmor(text)
		if !ok || !bytes.Equal(second, told) || !bytes.Equal(third, told) || text != armorByWords(told) {
			t.Errorf("an answer of %d bytes changed with another", len(told))
		}
	}
}

func TestSharesShareNothing(t *testing.T) {
	first := impl.Split(12345, 5, 3, []byte("salt"))
	second := impl.Split(12345, 5, 3, []byte("salt"))
	kept := slices.Clone(second)
	for i := range first[:cap(first)] {
		first[:cap(first)][i] = impl.Share{X: 9, Y: 9}
	}
	third := impl.Split(12345, 5, 3, []byte("salt"))
	if !slices.Equal(second, kept) || !slices.Equal(third, kept) {
		t.Errorf("shares changed with those of another answer: %v, %v", second, third)
	}
}
