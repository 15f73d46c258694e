package model_test

import (
	"fmt"
	"strings"
	"testing"

	"carousel/api"
	"carousel/model"
)

func TestTheExamples(t *testing.T) {
	if v, err := model.Params(net(t, "in 2 dense 1")); v != 3 || err != api.OK {
		t.Errorf("P12.1: Params of in 2 dense 1: %d, %d, want 3", v, err)
	}
	unparsed(t, "in 2 conv 1 1", api.ESHAPE)
}

// ordinary are nets with their texts, each kind of layer among them.
func ordinary() map[string]model.Net {
	return map[string]model.Net{
		"in 1":                          row(1),
		"in 9":                          row(9),
		"in 10":                         row(10),
		"in 1024":                       row(1024),
		"in 1 1":                        rows(1, 1),
		"in 2 3":                        rows(2, 3),
		"in 64 64":                      rows(64, 64),
		"in 2 dense 1":                  row(2, dense(1)),
		"in 2 dense 100 dense 7":        row(2, dense(100), dense(7)),
		"in 2 3 dense 4":                rows(2, 3, dense(4)),
		"in 2 5 conv 3 2":               rows(2, 5, conv(3, 2)),
		"in 2 5 pool 2":                 rows(2, 5, pool(2)),
		"in 4 bend 5":                   row(4, bend(5)),
		"in 4 bend 1 skip":              row(4, bend(1), skip()),
		"in 2 2 conv 2 1 skip":          rows(2, 2, conv(2, 1), skip()),
		"in 2 dense 2 skip bend 3 skip": row(2, dense(2), skip(), bend(3), skip()),
		"in 2 5 conv 3 2 pool 2 bend 1 dense 4 bend 2 skip": rows(2, 5, conv(3, 2), pool(2), bend(1), dense(4), bend(2), skip()),
	}
}

func TestParse(t *testing.T) {
	for text, wanted := range ordinary() {
		parsed(t, text, wanted)
	}
}

func TestBlanks(t *testing.T) {
	for text, wanted := range ordinary() {
		for _, b := range []string{" ", "\t", "\n", "  ", "\t\n", " \t\n", "\n\n\n ", strings.Repeat(" \n\t", 9)} {
			spread := strings.ReplaceAll(text, " ", b)
			for _, s := range []string{spread, b + spread, spread + b, b + spread + b} {
				parsed(t, s, wanted)
			}
		}
	}
}

// What looks like a blank, or is none at all, does not part words.
func TestNoBlanks(t *testing.T) {
	for _, b := range []string{"", "\r", "\v", "\f", "\x00", "\u00a0", "\u0085", "\u2003", "\u3000", "\xa0", "\xff", ",", ";", "_", "+"} {
		unparsed(t, "in"+b+"2", api.ESYNTAX)
		unparsed(t, "in 2 dense"+b+"1", api.ESYNTAX)
		if b != "" {
			unparsed(t, "in 2"+b, api.ESYNTAX)
			unparsed(t, b+"in 2", api.ESYNTAX)
			unparsed(t, "in 2 "+b, api.ESYNTAX)
			unparsed(t, "in 2 "+b+" dense 1", api.ESYNTAX)
		}
	}
	unparsed(t, "in 2\r\ndense 1", api.ESYNTAX)
	unparsed(t, "in 2 2conv 1 1", api.ESYNTAX)
	unparsed(t, "in 2 dense 1skip", api.ESYNTAX)
}

func TestLongTexts(t *testing.T) {
	for _, b := range []string{" ", "\t", "\n"} {
		text := "in 2 dense 1"
		room := api.MaxText - len(text)
		parsed(t, text+strings.Repeat(b, room), row(2, dense(1)))
		parsed(t, strings.Repeat(b, room)+text, row(2, dense(1)))
		parsed(t, "in 2"+strings.Repeat(b, room+1)+"dense 1", row(2, dense(1)))
		unparsed(t, text+strings.Repeat(b, room+1), api.ELIMIT)
		unparsed(t, strings.Repeat(b, room+1)+text, api.ELIMIT)
		unparsed(t, strings.Repeat(b, api.MaxText), api.ESYNTAX)
		unparsed(t, strings.Repeat(b, api.MaxText+1), api.ELIMIT)
	}
	unparsed(t, strings.Repeat("x", api.MaxText), api.ESYNTAX)
	unparsed(t, strings.Repeat("x", api.MaxText+1), api.ELIMIT)
	unparsed(t, strings.Repeat("x ", api.MaxText), api.ELIMIT)
	unparsed(t, "in 0"+strings.Repeat(" ", api.MaxText), api.ELIMIT)
	unparsed(t, "in 2 "+strings.Repeat("skip ", 3000), api.ESHAPE)
	unparsed(t, "in 2 bend 1 "+strings.Repeat("bend 1 ", 2000), api.ELIMIT)
	unparsed(t, "in 2 bend 1 "+strings.Repeat("bend 1 ", 2000)+"bend", api.ESYNTAX)
}

func TestWrongWords(t *testing.T) {
	for _, text := range []string{
		"", " ", "\n\t ", "in", "in ", " in", "2", "2 in", "dense 1", "skip", "x", "in in", "in in 2", "in 2 in", "in 2 in 2", "in 2 3 in 2 3",
		"in dense 1", "in skip", "in 2 2 2", "in 2 2 2 dense 1", "in 1 1 1 1", "IN 2", "In 2", "iN 2", "inn 2", "i 2", "in2", "in 2 what", "in 2 what 1", "in 2 Dense 1", "in 2 DENSE 1",
		"in 2 dens 1", "in 2 denses 1", "in 2 d 1", "in 2 bend 1 Skip", "in 2 bend 1 skips", "in 2 bend 1 ski", "in 2 2 convo 1 1", "in 2 2 Pool 1", "in 2 bends 1", "in 2 conv pool 1",
	} {
		unparsed(t, text, api.ESYNTAX)
	}
}

func TestHowManyNumbers(t *testing.T) {
	for _, c := range []struct {
		kind string
		has  int
	}{{"dense", 1}, {"conv", 2}, {"pool", 1}, {"bend", 1}, {"skip", 0}} {
		for many := range 5 {
			if many == c.has {
				continue
			}
			text := "in 4 4 bend 1 " + c.kind + strings.Repeat(" 1", many)
			unparsed(t, text, api.ESYNTAX)
			unparsed(t, text+" bend 1", api.ESYNTAX)
			unparsed(t, text+" skip", api.ESYNTAX)
		}
		if _, err := model.Parse("in 4 4 bend 1 " + c.kind + strings.Repeat(" 1", c.has)); err != api.OK {
			t.Errorf("P12.1: Parse of %s with %d numbers: %d", c.kind, c.has, err)
		}
	}
}

func TestWrongNumbers(t *testing.T) {
	for _, v := range []string{
		"00", "01", "02", "000", "001", "0002", "0000", "00001", "10000", "12345", "99999", "00000", "18446744073709551617", "4294967298", strings.Repeat("1", 400),
		"-1", "-0", "+1", "+0", "-", "+", "1-", "1+", "--1", "1.", "1.0", ".1", "1,", "1e1", "0x1", "0b1", "1_0", "x", "1x", "x1", "\u0661", "\uff11", "1\x00", "\x001", "\xb1", "/", ":", "1/", "1:", "(1)", "'1'",
	} {
		for _, text := range []string{"in %s", "in %s 1", "in 1 %s", "in 2 dense %s", "in 2 2 conv %s 1", "in 2 2 conv 1 %s", "in 2 2 pool %s", "in 2 bend %s", "in 2 bend 1 bend %s skip"} {
			unparsed(t, fmt.Sprintf(text, v), api.ESYNTAX)
		}
	}
}

// Numbers of up to 4 digits are read, and 0 is one: whether they may be is Shapes' to say.
func TestNumbersThatMayNotBe(t *testing.T) {
	for _, text := range []string{
		"in 0", "in 1025", "in 9999", "in 0 1", "in 1 0", "in 65 1", "in 1 65", "in 1024 1", "in 9999 9999", "in 2 dense 0", "in 2 dense 257", "in 2 dense 9999", "in 2 2 conv 0 1", "in 2 2 conv 1 0",
		"in 2 2 conv 17 1", "in 2 2 conv 1 17", "in 2 2 conv 1 9999", "in 2 2 pool 0", "in 2 2 pool 17", "in 2 2 pool 1000", "in 2 bend 0", "in 2 bend 6", "in 2 bend 5000",
	} {
		unparsed(t, text, api.EARG)
	}
	parsed(t, "in 1000 bend 1", row(1000, bend(1)))
	parsed(t, "in 10 dense 250", row(10, dense(250)))
	parsed(t, "in 1 bend 2 bend 3 bend 4", row(1, bend(2), bend(3), bend(4)))
}

// The text's own fault is told ahead of any that Shapes has, wherever it stands.
func TestWhichErrorParseTells(t *testing.T) {
	unparsed(t, "in 0 dense", api.ESYNTAX)
	unparsed(t, "in 2 skip what", api.ESYNTAX)
	unparsed(t, "in 2 dense 0 dense 01", api.ESYNTAX)
	unparsed(t, "in 1024 dense 256 bend", api.ESYNTAX)
	unparsed(t, "in 2"+strings.Repeat(" bend 1", 17)+" 1", api.ESYNTAX)
	unparsed(t, "in 2 skip bend 0", api.EARG)
	unparsed(t, "in 1024 dense 4 skip", api.ESHAPE)
	unparsed(t, "in 2"+strings.Repeat(" bend 1", 16)+" bend 6", api.EARG)
	unparsed(t, "in 2"+strings.Repeat(" bend 1", 16)+" pool 1", api.ESHAPE)
	unparsed(t, "in 2"+strings.Repeat(" bend 1", 17), api.ELIMIT)
	parsed(t, "in 2"+strings.Repeat(" bend 1", 16), row(2, again(16, bend(1))...))
}

func TestTextAndBack(t *testing.T) {
	for text, n := range ordinary() {
		if got := model.Text(n); got != text {
			t.Errorf("P12.1: Text(%v): %q, want %q", n, got, text)
		}
		parsed(t, model.Text(n), n)
		spread := " \t" + strings.ReplaceAll(text, " ", "\n \t") + "\n"
		if got := model.Text(net(t, spread)); got != text {
			t.Errorf("P12.1: Text of the net of %q: %q, want %q", spread, got, text)
		}
	}
}
