package fix_test

import (
	"testing"

	"carousel/api"
	"carousel/fix"
)

func holdTexts(t *testing.T, l map[api.Fix]string) {
	t.Helper()
	for a, want := range l {
		if got := fix.Text(a); got != want {
			t.Errorf("P1.2: Text(%d): %s, want %s", a, got, want)
		}
	}
}

func TestText(t *testing.T) {
	holdTexts(t, map[api.Fix]string{
		0: "0.0000000000", api.One: "1.0000000000", api.One / 2: "0.5000000000", fix.Of(10): "10.0000000000",
		fix.Of(3) + api.One/8: "3.1250000000", 1431655765: "0.3333333333", 2863311531: "0.6666666667",
		1: "0.0000000002", 2: "0.0000000005", 3: "0.0000000007", 43: "0.0000000100",
	})
}

func TestTextBelowNought(t *testing.T) {
	holdTexts(t, map[api.Fix]string{
		-1: "-0.0000000002", -api.One / 2: "-0.5000000000", -api.One: "-1.0000000000",
		-api.One - 1: "-1.0000000002", -fix.Of(3) - api.One/8: "-3.1250000000", -2863311531: "-0.6666666667",
	})
}

func TestTextAtTheBounds(t *testing.T) {
	holdTexts(t, map[api.Fix]string{
		api.Top: "2147483647.9999999998", api.Low: "-2147483648.0000000000", api.Low + 1: "-2147483647.9999999998",
	})
}

// The greatest rest of all is the one that comes nearest to rounding up to one.
func TestTextNextToAWholeOne(t *testing.T) {
	holdTexts(t, map[api.Fix]string{
		api.One - 1: "0.9999999998", 1 - api.One: "-0.9999999998", fix.Of(10) - 1: "9.9999999998",
	})
}

// An odd number of 2^11th parts of one ends in a five at the eleventh digit, with nothing behind it.
func TestTextOfTwoAsNear(t *testing.T) {
	tie := api.One >> 11
	holdTexts(t, map[api.Fix]string{
		tie: "0.0004882812", 3 * tie: "0.0014648438", 5 * tie: "0.0024414062", -tie: "-0.0004882812", -3 * tie: "-0.0014648438",
		tie + 1: "0.0004882815", tie - 1: "0.0004882810", fix.Of(7) + tie: "7.0004882812",
	})
}

func TestTextExact(t *testing.T) {
	l := append(edges(), strewn(5000)...)
	for i := range api.Fix(2048) {
		l = append(l, i*(api.One>>11), -i*(api.One>>11)-fix.Of(5))
	}
	for _, a := range l {
		if got, want := fix.Text(a), exactText(a); got != want {
			t.Errorf("P1.2: Text(%d): %s, want %s", a, got, want)
		}
	}
}
