package numtext_test

import (
	"strings"
	"testing"
)

func TestLiteralNamed(t *testing.T) { // P2.3
	for s, want := range map[string]uint64{
		"0": 0, "7": of(7), "10": of(10), "1.5e2": of(150), "0x10": of(16), "0xAbF": of(0xabf), "0x00": 0, "0x007": of(7), "0.5": of(0.5), "0.0": 0, "0e5": 0, "0.50": of(0.5), "10.01": of(10.01),
		"1e3": of(1000), "1E3": of(1000), "1e+3": of(1000), "1e-3": of(0.001), "1.5E-0003": of(0.0015), "1e400": inf, "1e-400": 0, "5e-324": least, "1.7976931348623157e308": most,
		"9007199254740993": of(1 << 53), "9007199254740993.0000000001": of(1<<53 + 2), "0x20000000000001": of(1 << 53), "0x20000000000003": of(1<<53 + 4),
		"1" + strings.Repeat("0", 400): inf, "0." + strings.Repeat("0", 400) + "1": 0, "1" + strings.Repeat("0", 400) + "e-400": of(1),
	} {
		literal(t, s, want, true)
	}
	for _, s := range []string{
		"", " ", " 1", "1 ", "1\n", "00", "01", "00.5", "01e1", "007", ".5", ".", ".e1", "5.", "5.e1", "0.", "0X1", "0x", "0xg", "0x1g", "0x 1", "-1", "+1", "-0", "-0x1", "1e", "1e+", "1e-", "1.e", "1.5e", "1e1.5", "1.2.3", "1_0", "1n", "1x",
		"Infinity", "-Infinity", "NaN", "e1", "x1", "a", "0b1", "0o1", "1e1e1", "１", "\x00", "1\x00", "0" + strings.Repeat("0", 400),
	} {
		literal(t, s, 0, false)
	}
}

func TestLiteralAllShortTexts(t *testing.T) { // P2.3
	texts("01.eE+-xXa ", 5, func(s string) {
		if literalForm.MatchString(s) || literalHex.MatchString(s) {
			literal(t, s, meant(s), true)
		} else {
			literal(t, s, 0, false)
		}
	})
}
