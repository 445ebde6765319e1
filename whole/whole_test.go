package whole

import (
	"math"
	"math/big"
	"strings"
	"testing"
)

// toBig reads the limbs of a number, and tests that they are as the type promises.
func toBig(t *testing.T, n Number) *big.Int {
	t.Helper()
	value := new(big.Int)
	for k := len(n.limbs) - 1; k >= 0; k-- {
		if n.limbs[k] >= base {
			t.Fatalf("the limb %d is not below the base", n.limbs[k])
		}
		value.Mul(value, big.NewInt(base))
		value.Add(value, new(big.Int).SetUint64(n.limbs[k]))
	}
	if len(n.limbs) > 0 && n.limbs[len(n.limbs)-1] == 0 {
		t.Fatalf("a nought on top of %v", value)
	}
	if len(n.limbs) == 0 && n.negative {
		t.Fatal("a negative 0")
	}
	if n.negative {
		value.Neg(value)
	}
	return value
}

// fromText makes a number digit by digit, so it needs Mul and Add with small numbers alone.
func fromText(text string) Number {
	var n Number
	ten := FromInt(10)
	digits := strings.TrimPrefix(text, "-")
	for _, d := range digits {
		n = n.Mul(ten).Add(FromInt(int(d - '0')))
	}
	if digits != text {
		n = FromInt(0).Sub(n)
	}
	return n
}

// chance answers the next of a row of numbers, the same row each time.
func chance(state *uint32, below int) int {
	*state = *state*1664525 + 1013904223
	return int(*state>>8) % below
}

func someTexts() []string {
	list := []string{"0", "1", "2", "9", "10", "99", "255", "999999999", "1000000000", "1000000001", "4294967296", "18446744073709551615", "18446744073709551616"}
	for _, length := range []int{17, 18, 19, 27, 36, 143, 144, 145, 153, 154, 200, 289, 290} {
		list = append(list, strings.Repeat("9", length), "1"+strings.Repeat("0", length-1), "1"+strings.Repeat("0", length-2)+"1", "8"+strings.Repeat("0", length/2)+"7")
	}
	state := uint32(7)
	for length := 1; length < 400; length += 13 {
		text := []byte{byte('1' + chance(&state, 9))}
		for len(text) < length {
			text = append(text, byte('0'+chance(&state, 10)))
		}
		list = append(list, string(text))
	}
	for _, text := range list[1:] {
		list = append(list, "-"+text)
	}
	return list
}

func TestFromInt(t *testing.T) {
	for _, n := range []int{0, 1, -1, 9, 10, -99, 255, 999999999, 1000000000, -999999999, -1000000000, 1000000000000000000, math.MaxInt, math.MinInt, math.MinInt + 1} {
		if got := toBig(t, FromInt(n)); got.Cmp(big.NewInt(int64(n))) != 0 {
			t.Errorf("FromInt(%d) is %v", n, got)
		}
	}
}

func TestTheZeroValueIsNought(t *testing.T) {
	var nought Number
	if nought.Sign() != 0 || nought.Digits() != 1 {
		t.Errorf("the zero value has sign %d and %d digits", nought.Sign(), nought.Digits())
	}
	seven := FromInt(7)
	for _, n := range []Number{nought.Add(seven), seven.Add(nought), seven.Sub(nought), FromInt(0).Sub(nought.Sub(seven))} {
		if toBig(t, n).Int64() != 7 {
			t.Errorf("7 with 0 is %v", toBig(t, n))
		}
	}
	if toBig(t, seven.Mul(nought)).Sign() != 0 || toBig(t, nought.Mul(FromInt(-7))).Sign() != 0 {
		t.Error("7 times 0 is not 0")
	}
}

func TestSignAndDigits(t *testing.T) {
	for _, text := range someTexts() {
		n := fromText(text)
		value := toBig(t, n)
		if value.String() != text {
			t.Fatalf("%s is made %v", text, value)
		}
		if n.Sign() != value.Sign() {
			t.Errorf("the sign of %s is %d", text, n.Sign())
		}
		if digits := len(strings.TrimPrefix(text, "-")); n.Digits() != digits {
			t.Errorf("%s has %d digits, not %d", text, digits, n.Digits())
		}
	}
}

func TestSumsAndProducts(t *testing.T) {
	texts := someTexts()
	numbers := make([]Number, len(texts))
	values := make([]*big.Int, len(texts))
	for i, text := range texts {
		numbers[i] = fromText(text)
		values[i], _ = new(big.Int).SetString(text, 10)
	}
	for i, a := range numbers {
		for j, b := range numbers {
			if got := toBig(t, a.Add(b)); got.Cmp(new(big.Int).Add(values[i], values[j])) != 0 {
				t.Errorf("%s + %s is %v", texts[i], texts[j], got)
			}
			if got := toBig(t, a.Sub(b)); got.Cmp(new(big.Int).Sub(values[i], values[j])) != 0 {
				t.Errorf("%s - %s is %v", texts[i], texts[j], got)
			}
			if got := toBig(t, a.Mul(b)); got.Cmp(new(big.Int).Mul(values[i], values[j])) != 0 {
				t.Errorf("%s * %s is %v", texts[i], texts[j], got)
			}
		}
	}
	for i := range numbers {
		if toBig(t, numbers[i]).Cmp(values[i]) != 0 {
			t.Errorf("%s has been changed by the calls", texts[i])
		}
	}
}

// The greatest limbs in the longest rows: here a sum of products would outgrow 64 bits first.
func TestGreatProducts(t *testing.T) {
	for _, length := range []int{1, 15, 16, 17, 31, 32, 33, 48, 445, 889} {
		limbs := make([]uint64, length)
		for k := range limbs {
			limbs[k] = base - 1
		}
		n := Number{limbs: limbs}
		value := toBig(t, n)
		if got := toBig(t, n.Mul(n)); got.Cmp(new(big.Int).Mul(value, value)) != 0 {
			t.Errorf("the square of %d nines is wrong", 9*length)
		}
		small := FromInt(-99)
		if got := toBig(t, n.Mul(small)); got.Cmp(new(big.Int).Mul(value, big.NewInt(-99))) != 0 {
			t.Errorf("-99 times %d nines is wrong", 9*length)
		}
		if got := toBig(t, small.Mul(n)); got.Cmp(new(big.Int).Mul(value, big.NewInt(-99))) != 0 {
			t.Errorf("%d nines times -99 is wrong", 9*length)
		}
	}
}

// A result that shared its limbs with a number would change with it, if ever one were changed.
func TestResultsStandAlone(t *testing.T) {
	nought := FromInt(0)
	for _, text := range []string{"7", "-123456789012345678901234567890"} {
		n := fromText(text)
		for _, result := range []Number{n.Add(nought), nought.Add(n), n.Sub(nought), nought.Sub(n), n.Mul(FromInt(1)), FromInt(1).Mul(n)} {
			result.limbs[0] = 5
			if toBig(t, n).String() != text {
				t.Fatalf("a result shares its limbs with %s", text)
			}
		}
	}
}
