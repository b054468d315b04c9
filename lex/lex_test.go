package lex_test

import (
	"slices"
	"strings"
	"testing"

	"plenum/api"
	"plenum/lex"
)

var allWords = strings.Fields("abort and delete else false for get has if in len let nil not or put repeat return scan set show true")

var allSigns = strings.Fields("== != <= >= .. ( ) { } , ; = < > + - * / %")

func name(at int, s string) api.Token { return api.Token{Kind: 1, At: at, S: s} }
func num(at int, n int64) api.Token   { return api.Token{Kind: 2, At: at, I: n} }
func text(at int, s string) api.Token { return api.Token{Kind: 3, At: at, S: s} }
func sign(at int, s string) api.Token { return api.Token{Kind: 4, At: at, S: s} }
func word(at int, s string) api.Token { return api.Token{Kind: 5, At: at, S: s} }

// gives fails unless s has exactly these tokens, and then the end.
func gives(t *testing.T, s string, want ...api.Token) {
	t.Helper()
	want = append(want, api.Token{At: len(s)})
	if l, e, at := lex.Tokens(s); e != api.OK || at != 0 || !slices.Equal(l, want) {
		t.Errorf("Tokens(%q) = %v, %d, %d, want %v", s, l, e, at, want)
	}
}

// fails fails unless s has this error there.
func fails(t *testing.T, s string, want api.Errno, where int) {
	t.Helper()
	if l, e, at := lex.Tokens(s); len(l) != 0 || e != want || at != where {
		t.Errorf("Tokens(%.80q) = %v, %d, %d, want %d, %d", s, l, e, at, want, where)
	}
}

// P16.1
func TestTokens(t *testing.T) {
	gives(t, "")
	gives(t, `put "a", 1;`, word(0, "put"), text(4, "a"), sign(7, ","), num(9, 1), sign(10, ";"))
	gives(t, "let x_1=_;", word(0, "let"), name(4, "x_1"), sign(7, "="), name(8, "_"), sign(9, ";"))
	gives(t, "a..b<=c===d", name(0, "a"), sign(1, ".."), name(3, "b"), sign(4, "<="), name(6, "c"), sign(7, "=="), sign(9, "="), name(10, "d"))
	gives(t, "1-2", num(0, 1), sign(1, "-"), num(2, 2))
	gives(t, "1(2", num(0, 1), sign(1, "("), num(2, 2))
	gives(t, `1"a"b"c"`, num(0, 1), text(1, "a"), name(4, "b"), text(5, "c"))
	gives(t, "0 0;0", num(0, 0), num(2, 0), sign(3, ";"), num(4, 0))
	gives(t, "<>=>", sign(0, "<"), sign(1, ">="), sign(3, ">"))
}

// P16.1
func TestSigns(t *testing.T) {
	for _, s := range allSigns {
		gives(t, s, sign(0, s))
		gives(t, "a"+s+"1", name(0, "a"), sign(1, s), num(1+len(s), 1))
	}
	for c := range 256 {
		s := string([]byte{byte(c)})
		l, e, at := lex.Tokens(s)
		starts := c >= 'a' && c <= 'z' || c == '_' || c >= '0' && c <= '9' || slices.Contains(allSigns, s) || strings.Contains(" \t\n#", s)
		switch {
		case c == '"':
			fails(t, s, api.ErrShort, 0)
		case !starts:
			fails(t, s, api.ErrForm, 0)
			fails(t, "ab "+s, api.ErrForm, 3)
			fails(t, "ab"+s+"cd", api.ErrForm, 2)
		case e != api.OK || at != 0 || len(l) > 2:
			t.Errorf("Tokens(%q) = %v, %d, %d", s, l, e, at)
		}
	}
	for _, s := range []string{"!", ".", "a ! b", "a . b", "&&", "a.b"} {
		fails(t, s, api.ErrForm, strings.IndexAny(s, "!.&"))
	}
	fails(t, "...", api.ErrForm, 2)
}

// P16.1
func TestNames(t *testing.T) {
	for _, s := range []string{"a", "z", "_", "a_", "_a", "a0", "z9", "_0", "__", "lets", "le", "ifx", "if_", "put1", "truenot", strings.Repeat("a", 16), "abcdefghijklmno_"} {
		gives(t, s, name(0, s))
		gives(t, " "+s+" ", name(1, s))
	}
	fails(t, strings.Repeat("a", 17), api.ErrFull, 0)
	fails(t, "  "+strings.Repeat("_9", 20)+" 01", api.ErrFull, 2)
	fails(t, "01 "+strings.Repeat("_9", 20), api.ErrForm, 0)
	fails(t, "aB", api.ErrForm, 1)
	fails(t, "aé", api.ErrForm, 1)
}

// P16.1, P16.2
func TestWords(t *testing.T) {
	for _, s := range allWords {
		gives(t, s, word(0, s))
		if !lex.Word(s) {
			t.Errorf("Word(%q) is false", s)
		}
		for _, no := range []string{s + "s", s[1:], s[:len(s)-1], strings.ToUpper(s), " " + s, s + " ", s + s} {
			if lex.Word(no) && !slices.Contains(allWords, no) {
				t.Errorf("Word(%q) is true", no)
			}
		}
	}
	for _, s := range []string{"", "a", "while", "x", "=="} {
		if lex.Word(s) {
			t.Errorf("Word(%q) is true", s)
		}
	}
}

// P16.1
func TestNumbers(t *testing.T) {
	gives(t, "9223372036854775807", num(0, 1<<63-1))
	gives(t, "1234567890", num(0, 1234567890))
	for _, s := range []string{"01", "00", "007", "0a", "0_", "1a", "1_", "12z", "01a", "99999999999999999999a", "099999999999999999999", "5if"} {
		fails(t, s, api.ErrForm, 0)
		fails(t, "a "+s+" ?", api.ErrForm, 2)
	}
	for _, s := range []string{"9223372036854775808", "18446744073709551616", strings.Repeat("9", 4000)} {
		fails(t, s, api.ErrOver, 0)
		fails(t, s+"-", api.ErrOver, 0)
	}
	fails(t, "1A", api.ErrForm, 1)
	fails(t, "1.", api.ErrForm, 1)
}

// P16.1
func TestTexts(t *testing.T) {
	gives(t, `""`, text(0, ""))
	gives(t, `"\"\\\n"`, text(0, "\"\\\n"))
	gives(t, `"a # b" # "`, text(0, "a # b"))
	gives(t, `"\\"a"\""`, text(0, `\`), name(4, "a"), text(5, `"`))
	for c := range 256 {
		s := string([]byte{byte(c)})
		switch {
		case c == '"', c == '\\':
		case c >= 32 && c <= 126:
			gives(t, `"`+s+`"`, text(0, s))
		default:
			fails(t, `"`+s+`"`, api.ErrForm, 0)
			fails(t, `x"a`+s, api.ErrForm, 1)
		}
		if !strings.Contains(`"\n`, s) {
			fails(t, `"\`+s+`"`, api.ErrForm, 0)
			fails(t, `  "a\`+s, api.ErrForm, 2)
		}
	}
	long := strings.Repeat("x", 64)
	gives(t, `"`+long+`"`, text(0, long))
	gives(t, `"`+strings.Repeat(`\n`, 64)+`"`, text(0, strings.Repeat("\n", 64)))
	fails(t, `"`+long+`x"`, api.ErrFull, 0)
	fails(t, `a "`+strings.Repeat(`\"`, 65)+`"`, api.ErrFull, 2)
	for _, s := range []string{`"`, `"a`, `"a\"`, `"a\`, `"` + long + "xyz", `"\\\`} {
		fails(t, s, api.ErrShort, 0)
		fails(t, "a;"+s, api.ErrShort, 2)
	}
	fails(t, `"`+long+"xyz\n", api.ErrForm, 0)
}

// P16.1
func TestFull(t *testing.T) {
	gives(t, strings.Repeat(" ", 4096))
	fails(t, strings.Repeat(" ", 4097), api.ErrFull, 4096)
	fails(t, "01"+strings.Repeat(" ", 4095), api.ErrFull, 4096)
	most := strings.Repeat("a ", 1024)
	if l, e, at := lex.Tokens(most); len(l) != 1025 || e != api.OK || at != 0 || l[1024] != (api.Token{At: 2048}) {
		t.Errorf("1024 tokens: %d, %d, %d", len(l), e, at)
	}
	fails(t, most+"b", api.ErrFull, 2048)
	fails(t, most+" ;;", api.ErrFull, 2049)
	fails(t, most+"01", api.ErrForm, 2048)
	fails(t, most+"?", api.ErrForm, 2048)
	fails(t, most+`"`, api.ErrShort, 2048)
	fails(t, most+"99999999999999999999", api.ErrOver, 2048)
	if l, e, _ := lex.Tokens(most + "# b"); len(l) != 1025 || e != api.OK {
		t.Errorf("1024 tokens and a comment: %d, %d", len(l), e)
	}
}

// P16.2
func TestQuote(t *testing.T) {
	for s, want := range map[string]string{"": `""`, "ab": `"ab"`, `"`: `"\""`, `\`: `"\\"`, "\n": `"\n"`, "a\"b\\c\nd n": `"a\"b\\c\nd n"`, " ~": `" ~"`, strings.Repeat("\n", 64): `"` + strings.Repeat(`\n`, 64) + `"`} {
		if q, e := lex.Quote(s); q != want || e != api.OK {
			t.Errorf("Quote(%q) = %s, %d", s, q, e)
		}
	}
	for c := range 256 {
		s := "a" + string([]byte{byte(c)})
		q, e := lex.Quote(s)
		if good := c >= 32 && c <= 126 || c == '\n'; !good && (q != "" || e != api.ErrForm) || good && e != api.OK {
			t.Errorf("Quote(%q) = %s, %d", s, q, e)
		}
	}
	for _, s := range []string{strings.Repeat("a", 65), strings.Repeat("\x00", 65), "\x00" + strings.Repeat("a", 999)} {
		if q, e := lex.Quote(s); q != "" || e != api.ErrFull {
			t.Errorf("Quote of %d bytes = %s, %d", len(s), q, e)
		}
	}
	if q, e := lex.Quote("\x00" + strings.Repeat("a", 63)); q != "" || e != api.ErrForm {
		t.Errorf("Quote of 64 bytes = %s, %d", q, e)
	}
}

// P16.3
func TestRoundTrip(t *testing.T) {
	for _, s := range []string{"", "a", `"`, `\`, "\n", `\n`, `\\"`, "# x", strings.Repeat(`"`, 64), "a\nb\\"} {
		q, e := lex.Quote(s)
		if e != api.OK {
			t.Errorf("Quote(%q): %d", s, e)
		}
		gives(t, q, text(0, s))
	}
	tokens := []string{"let", "x", "=", "1", "..", "\"a b\"", ";", "}", "<="}
	dense := []string{" ", " ", " ", " ", " ", " ", " ", " ", " "}
	loose := []string{"\n\n", "# a\n", " \t ", "#\n", "#\"\n\t", "\t#01\n#!\n", " ", "  # ~ \x80\xff\n", "\n#"}
	for _, gaps := range [][]string{dense, loose} {
		s, want := "", []api.Token(nil)
		for i, x := range tokens {
			l, _, _ := lex.Tokens(x)
			l[0].At = len(s)
			want = append(want, l[0])
			s += x + gaps[i]
		}
		gives(t, s, want...)
	}
}
