package lex_test

import (
	"math"
	"slices"
	"strconv"
	"strings"
	"testing"

	"brazier/api"
	"brazier/lex"
)

// P5.1: the chapter's examples.
func TestExamples(t *testing.T) {
	scans(t, "a>>>=0x1F;", name(0, "a"), sign(1, ">>>="), number(5, 31), sign(9, ";"), end(10))
	scans(t, "1.x", number(0, 1), sign(1, "."), name(2, "x"), end(3))
	scans(t, "'a\\x41\\n'/*\n*/ if", quoted(0, "aA\n"), word(15, "if"), end(17))
	for _, s := range []string{"01", "1e", "0x", "1a", "1.5e+x"} {
		wrong(t, s, 0, api.ErrLexNumber)
	}
	wrong(t, "a /* b", 2, api.ErrLexRemark)
	wrong(t, `"a`, 0, api.ErrLexString)
	wrong(t, `'\q'`, 0, api.ErrLexString)
	wrong(t, "a#", 1, api.ErrLexSign)
	wrong(t, "a\xc8", 1, api.ErrLexByte)
}

// P5.1: nothing at all, or blanks alone, is TokenEnd.
func TestNothing(t *testing.T) {
	scans(t, "", end(0))
	for _, s := range []string{" ", "\t", "\n", " \t\n\n", "//", "// a", "//\n", "/**/", "/***/", "/*/*/", "/* a // b */", "///*", "/* a\n\n*/ // /*"} {
		scans(t, s, end(len(s)))
	}
}

// P5.1: each sign, alone and between tokens that stand right beside it.
func TestSigns(t *testing.T) {
	for _, s := range strings.Fields(signs) {
		n := len(s)
		scans(t, s, sign(0, s), end(n))
		scans(t, "a"+s+"b", name(0, "a"), sign(1, s), name(1+n, "b"), end(2+n))
		scans(t, " "+s+"'b'", sign(1, s), quoted(1+n, "b"), end(4+n))
		scans(t, "\n"+s+" "+s+"\n", sign(1, s), sign(2+n, s), end(3+2*n))
	}
}

// P5.1: of several signs that stand there, the longest.
func TestLongestSign(t *testing.T) {
	for s, want := range map[string]string{
		">>>>=": ">>> >=", ">>>==": ">>>= =", "====": "=== =", "=====": "=== ==", "!===": "!== =", "!!=": "! !=", "!=!": "!= !",
		"<<<=": "<< <=", "<<==": "<<= =", ">>==": ">>= =", ">==": ">= =", "+++": "++ +", "+++=": "++ +=", "---": "-- -", "-+-": "- + -",
		"&&&": "&& &", "&&=": "&& =", "|||": "|| |", "||=": "|| =", "&=&": "&= &", "^==": "^= =", "~=": "~ =", "~~": "~ ~", "**": "* *", "**=": "* *=",
		"=>": "= >", "...": ". . .", "?.": "? .", "??": "? ?", "%%=": "% %=", "/==": "/= =", ">>>>>>>": ">>> >>> >", "<<<<": "<< <<", "()": "( )", "[{}]": "[ { } ]", "=<": "= <", "=!": "= !", "*/": "* /",
	} {
		var l []api.Token
		at := 0
		for _, f := range strings.Fields(want) {
			l = append(l, sign(at, f))
			at += len(f)
		}
		scans(t, s, append(l, end(at))...)
	}
}

// P5.1: each word that is kept, and names that are nearly one.
func TestWords(t *testing.T) {
	for _, s := range strings.Fields(kept) {
		n := len(s)
		scans(t, s, word(0, s), end(n))
		scans(t, "("+s+")"+s, sign(0, "("), word(1, s), sign(1+n, ")"), word(2+n, s), end(2+2*n))
		for _, other := range []string{s + "x", s + "1", s + "_", s + "$", "$" + s, "x" + s, strings.ToUpper(s), strings.ToUpper(s[:1]) + s[1:], s[:n-1] + strings.ToUpper(s[n-1:]), s + s} {
			scans(t, other, name(0, other), end(len(other)))
		}
	}
	for _, s := range strings.Fields("of get set var class async await static default switch case do with debugger arguments eval NaN Infinity print Object export import enum super") {
		scans(t, s, name(0, s), end(len(s)))
	}
}

// P5.1: names of all small bytes, up to 32 of them.
func TestNames(t *testing.T) {
	for c := 0; c < 128; c++ {
		s := string(rune(c))
		first := c >= 'a' && c <= 'z' || c >= 'A' && c <= 'Z' || c == '_' || c == '$'
		if first {
			scans(t, s, name(0, s), end(1))
		}
		if first || c >= '0' && c <= '9' {
			scans(t, "q"+s+"q", name(0, "q"+s+"q"), end(3))
		} else if l, _, e := lex.Scan("q" + s + "q"); e == api.OK && len(l) == 2 {
			t.Errorf("%q is no small byte", s)
		}
	}
	most := strings.Repeat("aZ9_", 8)
	scans(t, most, name(0, most), end(32))
	scans(t, most+" "+most, name(0, most), name(33, most), end(65))
	wrong(t, most+"a", 0, api.ErrLexName)
	wrong(t, "1 + "+most+"$ 'a", 4, api.ErrLexName)
	wrong(t, strings.Repeat("a", 60000), 0, api.ErrLexName)
	digits := strings.Repeat("1", 33)
	scans(t, digits, number(0, 111111111111111111111111111111111), end(33))
}

// P5.1: numbers, and what stands right behind them.
func TestNumbers(t *testing.T) {
	for s, want := range map[string]float64{
		"0": 0, "7": 7, "10": 10, "90": 90, "1234567890": 1234567890, "0.5": 0.5, "1.50": 1.5, "0.1": 0.1, "12.034": 12.034, "1e3": 1000, "1E3": 1000, "1e+3": 1000, "1e-3": 0.001, "1E-3": 0.001, "2.5e1": 25, "0e0": 0, "1e01": 10,
		"0x0": 0, "0x1F": 31, "0xabcdef": 0xabcdef, "0xABCDEF": 0xabcdef, "0x00ff": 255, "0x1e5": 0x1e5, "0x20000000000001": 1 << 53, "9007199254740993": 1 << 53, "1e400": math.Inf(1), "1e-400": 0, "5e-324": 5e-324,
	} {
		n := len(s)
		scans(t, s, number(0, want), end(n))
		scans(t, s+"'a'", number(0, want), quoted(n, "a"), end(n+3))
		scans(t, s+";", number(0, want), sign(n, ";"), end(n+1))
		scans(t, s+".", number(0, want), sign(n, "."), end(n+1))
		scans(t, s+".e1", number(0, want), sign(n, "."), name(n+1, "e1"), end(n+3))
		scans(t, s+"..5", number(0, want), sign(n, "."), sign(n+1, "."), number(n+2, 5), end(n+3))
		scans(t, "-"+s+" a", sign(0, "-"), number(1, want), name(n+2, "a"), end(n+3))
		scans(t, s+"+1", number(0, want), sign(n, "+"), number(n+1, 1), end(n+2))
		for _, small := range []string{"g", "z", "G", "Z", "x", "_", "$", "0x", "g1"} {
			if s == "0" && small[0] == 'x' {
				continue
			}
			wrong(t, "\n"+s+small, 1, api.ErrLexNumber)
		}
	}
	scans(t, ".5", sign(0, "."), number(1, 5), end(2))
	scans(t, "1.5.5", number(0, 1.5), sign(3, "."), number(4, 5), end(5))
	scans(t, "1e5.5", number(0, 1e5), sign(3, "."), number(4, 5), end(5))
	scans(t, "0x1.5", number(0, 1), sign(3, "."), number(4, 5), end(5))
	scans(t, "0x1e+5", number(0, 30), sign(4, "+"), number(5, 5), end(6))
	scans(t, "1 .5 e", number(0, 1), sign(2, "."), number(3, 5), name(5, "e"), end(6))
	scans(t, "1./**/5", number(0, 1), sign(1, "."), number(6, 5), end(7))
	scans(t, "a0x", name(0, "a0x"), end(3))
}

// P5.1: numbers that numtext.Literal refuses, or that run into a small byte.
func TestWrongNumbers(t *testing.T) {
	for _, s := range strings.Fields("00 01 09 007 01.5 00.5 00e1 0x 0xg 0xG 0x_ 0x.5 0x+ 0X1 0X 1e 1E 1e+ 1e- 1e+- 1ee 1e.5 1e+e 1.5e 1.5E- 1.5ex 1e5e 1e5e5 1.5e5x 1_0 1$ 1n 10px 0b1 0o7 1.5f 0x1g 0x1_ 1in 0e 1e'1' 1e(1) 0x'1' 01; 1e\"a") {
		wrong(t, s, 0, api.ErrLexNumber)
		wrong(t, "a; "+s, 3, api.ErrLexNumber)
		wrong(t, "'b'"+s+" #", 3, api.ErrLexNumber)
	}
	wrong(t, "1e\n5", 0, api.ErrLexNumber)
	wrong(t, "1e /*", 0, api.ErrLexNumber)
	wrong(t, strings.Repeat("0", 60000), 0, api.ErrLexNumber)
	scans(t, strings.Repeat("9", 65536), number(0, math.Inf(1)), end(65536))
	scans(t, "0."+strings.Repeat("0", 65534), number(0, 0), end(65536))
}

// P5.1: strings: each byte that may stand there, and each escape.
func TestStrings(t *testing.T) {
	for _, q := range []string{"'", `"`} {
		scans(t, q+q, quoted(0, ""), end(2))
		scans(t, q+q+q+q, quoted(0, ""), quoted(2, ""), end(4))
		for c := 0; c < 128; c++ {
			s := string(rune(c))
			switch {
			case c != 9 && c != 10 && (c < 32 || c > 126):
				wrong(t, q+s+q, 1, api.ErrLexByte)
			case c == 10 || s == `\`:
				wrong(t, q+s+q, 0, api.ErrLexString)
			case s == q:
				wrong(t, q+s+q, 2, api.ErrLexString)
			default:
				scans(t, q+s+q, quoted(0, s), end(3))
				scans(t, q+"a"+s+"b"+q+"c", quoted(0, "a"+s+"b"), name(5, "c"), end(6))
			}
		}
		for e, want := range map[string]string{`\n`: "\n", `\t`: "\t", `\\`: `\`, `\'`: `'`, `\"`: `"`, `\\n`: `\n`, `\\\n`: "\\\n", `\\\\`: `\\`, `\'\"`: `'"`, `\nn`: "\nn", `\x411`: "A1", `\x0a`: "\n", `\x00`: "\x00", `\\x41`: `\x41`} {
			n := len(e)
			scans(t, q+e+q, quoted(0, want), end(n+2))
			scans(t, ";"+q+"a"+e+"b"+q+";", sign(0, ";"), quoted(1, "a"+want+"b"), sign(n+5, ";"), end(n+6))
		}
		for c := range 256 {
			h := strconv.FormatInt(int64(c)+256, 16)[1:]
			u := strings.ToUpper(h)
			text := string([]byte{byte(c)})
			scans(t, q+`\x`+h+q, quoted(0, text), end(6))
			scans(t, q+`\x`+u+q, quoted(0, text), end(6))
			scans(t, q+`\x`+h[:1]+u[1:]+`\x`+u[:1]+h[1:]+q, quoted(0, text+text), end(10))
		}
	}
	scans(t, `"// a"'/* b'`, quoted(0, "// a"), quoted(6, "/* b"), end(12))
}

// P5.1: strings that do not end, that have a byte 10, or another `\`.
func TestWrongStrings(t *testing.T) {
	for _, s := range []string{
		`'`, `"`, `'a`, `"a'`, `'a"`, `'\'`, `'\\\'`, `'\`, `'\x`, `'\x4`, `'\x41`, "'\n'", "'a\nb'", "'\\\n'", "'a\\\nb'", "'a\n", "'\\x4\n1'", "'\\x\n41'",
		`'\q'`, `'\a'`, `'\0'`, `'\r'`, `'\b'`, `'\v'`, `'\u0041'`, `'\N'`, `'\T'`, `'\X41'`, `'\ '`, `'\/'`, `'\x'`, `'\x4'`, `'\xg1'`, `'\x1g'`, `'\xG1'`, `'\x+1'`, `'\x 1'`, `'\x_1'`, `'\x-1'`, `'\x1_'`, `'\x'41'`, `'\x4'1'`, `'\x\x41'`, `'b\q`, `'\nn\q'`, `'\x0x'`,
	} {
		wrong(t, s, 0, api.ErrLexString)
		wrong(t, "ab = "+s+" #", 5, api.ErrLexString)
		wrong(t, "'a'"+s+" /*", 3, api.ErrLexString)
		wrong(t, strings.NewReplacer("'", `"`, `"`, "'").Replace(s), 0, api.ErrLexString)
	}
}

// P5.1: what a string may say at most, however it is written.
func TestLongStrings(t *testing.T) {
	most := strings.Repeat("ab", 2048)
	scans(t, "'"+most+"'", quoted(0, most), end(4098))
	wrong(t, "'"+most+"a'", 0, api.ErrLexText)
	wrong(t, `a="`+most+`\n";`, 2, api.ErrLexText)
	hex := strings.Repeat(`\x61\x62`, 2048)
	scans(t, "'"+hex+"'", quoted(0, most), end(4*4096+2))
	wrong(t, "'"+hex+"a'", 0, api.ErrLexText)
	wrong(t, "'"+hex+`\x61'`, 0, api.ErrLexText)
	// A string that is wrong otherwise as well is that first.
	wrong(t, "'"+most+"a", 0, api.ErrLexString)
	wrong(t, "'"+most+`ab\q'`, 0, api.ErrLexString)
	wrong(t, "'"+most+"ab\n'", 0, api.ErrLexString)
	wrong(t, "'"+strings.Repeat("a", 65535), 0, api.ErrLexString)
	wrong(t, "'"+strings.Repeat(`\`, 65534)+"'", 0, api.ErrLexText)
	wrong(t, "'"+strings.Repeat(`\`, 65533)+"'", 0, api.ErrLexString)
}

// P5.1: both kinds of remarks, up to where they end.
func TestRemarks(t *testing.T) {
	scans(t, "a//b", name(0, "a"), end(4))
	scans(t, "a//b\nc", name(0, "a"), name(5, "c"), end(6))
	scans(t, "a// /* b\nc", name(0, "a"), name(9, "c"), end(10))
	scans(t, "a//\n\n//\nc//", name(0, "a"), name(8, "c"), end(11))
	scans(t, "a/**/b", name(0, "a"), name(5, "b"), end(6))
	scans(t, "a/* // */b", name(0, "a"), name(9, "b"), end(10))
	scans(t, "a/*/*/b", name(0, "a"), name(6, "b"), end(7))
	scans(t, "a/***/b", name(0, "a"), name(6, "b"), end(7))
	scans(t, "a/* * / ** \n*/b*/", name(0, "a"), name(14, "b"), sign(15, "*"), sign(16, "/"), end(17))
	scans(t, "a/**//**/b", name(0, "a"), name(9, "b"), end(10))
	scans(t, "/* 'a */'b'", quoted(8, "b"), end(11))
	scans(t, "a / b", name(0, "a"), sign(2, "/"), name(4, "b"), end(5))
	scans(t, "a/ /b", name(0, "a"), sign(1, "/"), sign(3, "/"), name(4, "b"), end(5))
	scans(t, "a/ *b", name(0, "a"), sign(1, "/"), sign(3, "*"), name(4, "b"), end(5))
	scans(t, "a/=/**/b", name(0, "a"), sign(1, "/="), name(7, "b"), end(8))
	scans(t, "1/**/2", number(0, 1), number(5, 2), end(6))
	for _, s := range []string{"/*", "/*/", "/**", "/* a", "/* a *", "/* a * /", "/* \n", "/* // ", "/*'*'/", "/*/ *", "/*#"} {
		wrong(t, s, 0, api.ErrLexRemark)
		wrong(t, "/**/ \n"+s, 6, api.ErrLexRemark)
		wrong(t, "a+"+s, 2, api.ErrLexRemark)
		wrong(t, "// a\n"+s, 5, api.ErrLexRemark)
	}
}

// P5.1: 65536 bytes may be, whatever they are; one more is told ahead of all else.
func TestLong(t *testing.T) {
	for _, s := range []string{" ", "\n", "a;", "'a'", "1 ", "/**/", "(#", "a\xff", "\x00", "/*//"} {
		most := strings.Repeat(s, 65536)[:65536]
		if _, at, e := lex.Scan(most); e == api.ErrLexLong {
			t.Errorf("%q: %d, %d", s, at, e)
		}
		wrong(t, most+" ", 0, api.ErrLexLong)
		wrong(t, most+"\xff", 0, api.ErrLexLong)
		wrong(t, most+most, 0, api.ErrLexLong)
	}
	blank := strings.Repeat(" ", 65535)
	scans(t, blank+"a", name(65535, "a"), end(65536))
	scans(t, blank+";", sign(65535, ";"), end(65536))
	l, at, e := lex.Scan(strings.Repeat(";", 65536))
	if e != api.OK || at != 0 || len(l) != 65537 || l[65535] != sign(65535, ";") || l[65536] != end(65536) {
		t.Error("65536 signs:", len(l), at, e)
	}
}

// P5.1: bytes that are none of a program's, wherever they stand, ahead of all that is wrong otherwise.
func TestBytes(t *testing.T) {
	for c := range 256 {
		s := string([]byte{byte(c)})
		if c == 9 || c == 10 || 32 <= c && c <= 126 {
			if _, _, e := lex.Scan(s); e == api.ErrLexByte {
				t.Errorf("byte %d is a program's", c)
			}
			continue
		}
		wrong(t, s, 0, api.ErrLexByte)
		wrong(t, s+s, 0, api.ErrLexByte)
		wrong(t, "a"+s, 1, api.ErrLexByte)
		wrong(t, "'a"+s+"'", 2, api.ErrLexByte)
		wrong(t, "// a"+s+"\n", 4, api.ErrLexByte)
		wrong(t, "/* a"+s+"*/", 4, api.ErrLexByte)
		wrong(t, "# 01 'a\n /* "+s+s, 12, api.ErrLexByte)
		wrong(t, strings.Repeat("b", 40)+s+"\xff", 40, api.ErrLexByte)
	}
	for _, s := range []string{"é", "€", "😀", "\ufffd", "\xed\xa0\x80", "\xe2\x82", "\u00a0", "\u2028"} {
		wrong(t, s, 0, api.ErrLexByte)
		wrong(t, "'a"+s+"'", 2, api.ErrLexByte)
	}
}

// P5.1: bytes at which no sign stands.
func TestWrongSigns(t *testing.T) {
	for _, s := range []string{"#", "@", "`", `\`} {
		wrong(t, s, 0, api.ErrLexSign)
		wrong(t, "a"+s, 1, api.ErrLexSign)
		wrong(t, "1"+s, 1, api.ErrLexSign)
		wrong(t, "'a'"+s+"/*", 3, api.ErrLexSign)
		wrong(t, "/* */ "+s+" 01", 6, api.ErrLexSign)
		wrong(t, ">>>"+s, 3, api.ErrLexSign)
	}
}

// P5.1: of two faults the first from the left is told, whichever they are.
func TestFirstFault(t *testing.T) {
	faults := []struct {
		s string
		e api.Errno
	}{
		{"/* a", api.ErrLexRemark}, {strings.Repeat("n", 33), api.ErrLexName}, {"01", api.ErrLexNumber}, {"1a", api.ErrLexNumber},
		{"'a\n", api.ErrLexString}, {`'\q'`, api.ErrLexString}, {"'" + strings.Repeat("n", 4097) + "'", api.ErrLexText}, {"#", api.ErrLexSign},
	}
	for _, f := range faults {
		for _, g := range faults {
			wrong(t, "a = "+f.s+" "+g.s, 4, f.e)
			wrong(t, "a = "+f.s+" "+g.s+"\x00", 4+len(f.s)+1+len(g.s), api.ErrLexByte)
		}
	}
}

// P5.1: many texts, by what regular expressions tell of them.
func TestManyTexts(t *testing.T) {
	c := chance(5)
	fine, faulty := 0, 0
	for k := range 60000 {
		s := c.text(1 + k%12)
		want, wantAt, wantE := meant(s)
		got, at, e := lex.Scan(s)
		if at != wantAt || e != wantE || !slices.Equal(got, want) {
			t.Fatalf("%q: %+v, %d, %d, want %+v, %d, %d", s, got, at, e, want, wantAt, wantE)
		}
		if e == api.OK {
			fine++
		} else {
			faulty++
		}
	}
	if fine < 10000 || faulty < 10000 {
		t.Error("the texts are too much alike:", fine, faulty)
	}
}

// R5, R6: what Scan tells is the caller's own, and always the same.
func TestOwn(t *testing.T) {
	const s = "let a = 'b' + 1; // c"
	first, _, _ := lex.Scan(s)
	want := slices.Clone(first)
	clear(first)
	second, _, _ := lex.Scan(s)
	if !slices.Equal(second, want) {
		t.Error("told otherwise:", second)
	}
}
