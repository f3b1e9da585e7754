package lex

import (
	"slices"
	"strconv"
	"strings"
	"testing"

	"annals/api"
)

// dice answers numbers that look thrown, the same ones each time.
type dice uint64

func (x *dice) below(n int) int {
	*x = *x*6364136223846793005 + 1442695040888963407
	return int(uint64(*x) >> 33 % uint64(n))
}

func word1(at int, text string) Token { return Token{Kind: Word, Text: text, At: at} }

func number1(at int, n int64) Token { return Token{Kind: Number, Int: n, At: at} }

func quoted1(at int, text string) Token { return Token{Kind: Quoted, Text: text, At: at} }

func sign1(at int, text string) Token { return Token{Kind: Sign, Text: text, At: at} }

// P14.1: the kinds have the numbers of the chapter.
func TestKinds(t *testing.T) {
	if Word != 1 || Number != 2 || Quoted != 3 || Sign != 4 || MaxDigits != 18 {
		t.Error("the constants aren't those of the chapter")
	}
}

// P14.1 and P14.2
func TestTokens(t *testing.T) {
	cases := []struct {
		s    string
		want []Token
	}{
		{"", nil},
		{" \t\n ", nil},
		{"ab <= 'it''s'", []Token{word1(0, "AB"), sign1(3, "<="), quoted1(6, "it's")}},

		{"a", []Token{word1(0, "A")}},
		{"z", []Token{word1(0, "Z")}},
		{"A", []Token{word1(0, "A")}},
		{"Z", []Token{word1(0, "Z")}},
		{"_", []Token{word1(0, "_")}},
		{"_9", []Token{word1(0, "_9")}},
		{"a0b9_C", []Token{word1(0, "A0B9_C")}},
		{"aZ zA", []Token{word1(0, "AZ"), word1(3, "ZA")}},
		{"\ta\nb\n", []Token{word1(1, "A"), word1(3, "B")}},
		{"abcdefghijklmnopqrstuvwxyzabc", []Token{word1(0, "ABCDEFGHIJKLMNOPQRSTUVWXYZABC")}},

		{"0", []Token{number1(0, 0)}},
		{"000", []Token{number1(0, 0)}},
		{"007", []Token{number1(0, 7)}},
		{"9", []Token{number1(0, 9)}},
		{"1234567890", []Token{number1(0, 1234567890)}},
		{"999999999999999999", []Token{number1(0, 999999999999999999)}},
		{"000000000000000001", []Token{number1(0, 1)}},
		{"1 2", []Token{number1(0, 1), number1(2, 2)}},
		{"1.2", []Token{number1(0, 1), sign1(1, "."), number1(2, 2)}},
		{"1'a'2", []Token{number1(0, 1), quoted1(1, "a"), number1(4, 2)}},
		{"-5", []Token{sign1(0, "-"), number1(1, 5)}},
		{"+5", []Token{sign1(0, "+"), number1(1, 5)}},
		{"1\na", []Token{number1(0, 1), word1(2, "A")}},

		{"''", []Token{quoted1(0, "")}},
		{"''''", []Token{quoted1(0, "'")}},
		{"''''''", []Token{quoted1(0, "''")}},
		{"'' ''", []Token{quoted1(0, ""), quoted1(3, "")}},
		{"'a''b'", []Token{quoted1(0, "a'b")}},
		{"'''a'", []Token{quoted1(0, "'a")}},
		{"'a'''", []Token{quoted1(0, "a'")}},
		{"'a' 'b'", []Token{quoted1(0, "a"), quoted1(4, "b")}},
		{"'a'b'c'", []Token{quoted1(0, "a"), word1(3, "B"), quoted1(4, "c")}},
		{"'aB z\t\n!\x00\xff\x80é'", []Token{quoted1(0, "aB z\t\n!\x00\xff\x80é")}},
		{"'<>1a'", []Token{quoted1(0, "<>1a")}},

		{"<>", []Token{sign1(0, "<>")}},
		{"<=", []Token{sign1(0, "<=")}},
		{">=", []Token{sign1(0, ">=")}},
		{"< >", []Token{sign1(0, "<"), sign1(2, ">")}},
		{"><", []Token{sign1(0, ">"), sign1(1, "<")}},
		{"=<", []Token{sign1(0, "="), sign1(1, "<")}},
		{"==", []Token{sign1(0, "="), sign1(1, "=")}},
		{"=>", []Token{sign1(0, "="), sign1(1, ">")}},
		{"<<>>=", []Token{sign1(0, "<"), sign1(1, "<>"), sign1(3, ">=")}},
		{"<>=", []Token{sign1(0, "<>"), sign1(2, "=")}},
		{"<=>", []Token{sign1(0, "<="), sign1(2, ">")}},
		{"(),;.=<+-*>", []Token{
			sign1(0, "("), sign1(1, ")"), sign1(2, ","), sign1(3, ";"), sign1(4, "."), sign1(5, "="), sign1(6, "<"),
			sign1(7, "+"), sign1(8, "-"), sign1(9, "*"), sign1(10, ">"),
		}},
		{"a.b*2", []Token{word1(0, "A"), sign1(1, "."), word1(2, "B"), sign1(3, "*"), number1(4, 2)}},
		{"--", []Token{sign1(0, "-"), sign1(1, "-")}},
	}
	for _, c := range cases {
		if got, f := Tokens(c.s); f != (api.Fault{}) || !slices.Equal(got, c.want) {
			t.Errorf("Tokens(%q): %v, %v, want %v", c.s, got, f, c.want)
		}
	}
}

// P14.2
func TestWrongTexts(t *testing.T) {
	cases := []struct {
		s  string
		at int
	}{
		{"1a", 0}, {"1_", 0}, {"1Z", 0}, {"12 34b", 3}, {"a 1b c", 2}, {"999999999999999999a", 0},
		{"1234567890123456789", 0}, {"0000000000000000000", 0}, {"a 0000000000000000001", 2}, {strings.Repeat("1", 4096), 0}, {"-1234567890123456789", 1},
		{"'", 0}, {"'a", 0}, {"'a''", 0}, {"'''", 0}, {"'''''", 0}, {"a 'b''c", 2}, {"'a' 'b", 4}, {"'a'' !", 0}, {"''a'", 3}, {"'!", 0},
		{"!", 0}, {" \t\n!", 3}, {"a!b", 1}, {"a\r\n", 1}, {"\x00", 0}, {"a\x0bb", 1}, {"a\x0c", 1}, {"\x7f", 0}, {"\x80", 0}, {"\xff", 0}, {"a\xa0", 1}, {"a\xc2\xa0b", 1},
		{"é", 0}, {"aé", 1}, {"1é", 1}, {"\"a\"", 0}, {"a[1]", 1}, {"a/b", 1}, {"a^b", 1}, {"`", 0}, {"{", 0}, {"@", 0}, {"a:b", 1}, {"a#", 1}, {"&", 0}, {"?", 0},
		{"٣", 0}, {"\u212a", 0}, // a digit and a letter of other scripts
		{"! 1a", 0}, {"a 'b", 2},
	}
	for _, c := range cases {
		got, f := Tokens(c.s)
		if f != (api.Fault{Code: api.ErrToken, At: c.at}) || len(got) != 0 {
			t.Errorf("Tokens(%q): %v, %v, want ErrToken at %d", c.s, got, f, c.at)
		}
	}
}

// P14.1 and P14.2, byte by byte: what each begins by itself.
func TestEachByte(t *testing.T) {
	for b := range 256 {
		s := string([]byte{byte(b)})
		got, f := Tokens(s)
		var want []Token
		var fault api.Fault
		switch {
		case strings.Contains("abcdefghijklmnopqrstuvwxyzABCDEFGHIJKLMNOPQRSTUVWXYZ_", s):
			want = []Token{word1(0, strings.ToUpper(s))}
		case strings.Contains("0123456789", s):
			want = []Token{number1(0, int64(b-'0'))}
		case strings.Contains("(),;.=<>+-*", s):
			want = []Token{sign1(0, s)}
		case strings.Contains(" \t\n", s):
		default:
			fault = api.Fault{Code: api.ErrToken}
		}
		if f != fault || !slices.Equal(got, want) {
			t.Errorf("Tokens(%q): %v, %v", s, got, f)
		}
		for _, ahead := range []string{"a", "1", "'a'", "<", " "} {
			checkAgainstSlow(t, ahead+s)
		}
	}
}

// P14.2: the longest text, and those that are longer.
func TestLongTexts(t *testing.T) {
	for _, piece := range []string{"a", "'", " ", "!", "1", "\xff", "<"} {
		for _, size := range []int{api.MaxSource + 1, api.MaxSource + 2, 1 << 20} {
			got, f := Tokens(strings.Repeat(piece, size))
			if f != (api.Fault{Code: api.ErrLong, At: 4096}) || len(got) != 0 {
				t.Errorf("%d times %q: %v", size, piece, f)
			}
		}
		checkAgainstSlow(t, strings.Repeat(piece, api.MaxSource))
		checkAgainstSlow(t, strings.Repeat(piece, api.MaxSource-1))
	}
	if got, f := Tokens(strings.Repeat("a", 4096)); f != (api.Fault{}) || len(got) != 1 || len(got[0].Text) != 4096 {
		t.Errorf("a word as long as can be: %v", f)
	}
	if got, f := Tokens(strings.Repeat("-", 4096)); f != (api.Fault{}) || len(got) != 4096 || got[4095].At != 4095 {
		t.Errorf("as many tokens as can be: %v", f)
	}
	if got, f := Tokens(strings.Repeat("'", 4096)); f != (api.Fault{}) || len(got) != 1 || len(got[0].Text) != 2047 {
		t.Errorf("as many quotes as can be: %v", f)
	}
	if got, f := Tokens(strings.Repeat("'", 4095)); f != (api.Fault{Code: api.ErrToken}) || len(got) != 0 {
		t.Errorf("one quote less: %v", f)
	}
}

// slow is Tokens by a state for each byte.
func slow(s string) ([]Token, int) {
	const letters = "abcdefghijklmnopqrstuvwxyzABCDEFGHIJKLMNOPQRSTUVWXYZ_"
	const digits = "0123456789"
	var out []Token
	for at := 0; at < len(s); {
		rest := s[at:]
		var token Token
		size := 0
		switch b := rest[:1]; {
		case strings.Contains(" \t\n", b):
			at++
			continue
		case strings.Contains(letters, b):
			size = len(rest) - len(strings.TrimLeft(rest, letters+digits))
			token = word1(at, strings.ToUpper(rest[:size]))
		case strings.Contains(digits, b):
			size = len(rest) - len(strings.TrimLeft(rest, digits))
			if size > 18 || size < len(rest) && strings.Contains(letters, rest[size:size+1]) {
				return nil, at
			}
			n, _ := strconv.ParseInt(rest[:size], 10, 64)
			token = number1(at, n)
		case b == "'":
			for end := 2; end <= len(rest) && size == 0; end++ {
				inner := rest[1 : end-1]
				closed := rest[end-1] == '\'' && !strings.Contains(strings.ReplaceAll(inner, "''", ""), "'")
				if closed && !strings.HasPrefix(rest[end:], "'") {
					size, token = end, quoted1(at, strings.ReplaceAll(inner, "''", "'"))
				}
			}
		default:
			for _, sign := range strings.Fields("( ) , ; . = < > + - * <> <= >=") {
				if strings.HasPrefix(rest, sign) {
					size, token = len(sign), sign1(at, sign)
				}
			}
		}
		if size == 0 {
			return nil, at
		}
		out = append(out, token)
		at += size
	}
	return out, -1
}

func checkAgainstSlow(t *testing.T, s string) {
	t.Helper()
	want, at := slow(s)
	fault := api.Fault{}
	if at >= 0 {
		fault = api.Fault{Code: api.ErrToken, At: at}
	}
	if got, f := Tokens(s); f != fault || !slices.Equal(got, want) {
		t.Fatalf("Tokens(%q): %v, %v, want %v, %v", s, got, f, want, fault)
	}
}

// P14.1 and P14.2, with texts of any pieces.
func TestThrownTexts(t *testing.T) {
	x := dice(14)
	pieces := []string{"a", "Z", "_", "0", "7", "9", "'", "'", "''", " ", "\t", "\n", "<", ">", "=", "(", ")", ",", ";", ".", "+", "-", "*", "12345678", "select", "\xff"}
	right, wrong := 0, 0
	for range 40000 {
		var s strings.Builder
		n := len(pieces) - x.below(2)
		for range x.below(14) {
			s.WriteString(pieces[x.below(n)])
		}
		checkAgainstSlow(t, s.String())
		if _, f := Tokens(s.String()); f.Code == api.OK {
			right++
		} else {
			wrong++
		}
	}
	if right < 1000 || wrong < 1000 {
		t.Errorf("%d texts were right, %d wrong", right, wrong)
	}
}

// P14.3
func TestQuote(t *testing.T) {
	cases := []struct{ s, want string }{
		{"", "''"}, {"a", "'a'"}, {"it's", "'it''s'"}, {"'", "''''"}, {"''", "''''''"}, {"'a'", "'''a'''"},
		{"\x00\xff\n", "'\x00\xff\n'"}, {"aB", "'aB'"}, {"\"", "'\"'"}, {"\\", "'\\'"}, {"é", "'é'"}, {"’", "'’'"},
	}
	for _, c := range cases {
		if got := Quote(c.s); got != c.want {
			t.Errorf("Quote(%q): %q, want %q", c.s, got, c.want)
		}
	}
	long := strings.Repeat("'", 1<<20)
	if got := Quote(long); len(got) != 2<<20+2 || strings.Trim(got, "'") != "" {
		t.Errorf("Quote of many quotes: %d bytes", len(got))
	}
}

// P14.1 and P14.3: what is quoted is read again as one token, whatever stands behind it.
func TestQuoteIsReadAgain(t *testing.T) {
	x := dice(143)
	for range 5000 {
		b := make([]byte, x.below(12))
		for i := range b {
			b[i] = byte(x.below(256))
			if x.below(3) == 0 {
				b[i] = '\''
			}
		}
		q := Quote(string(b))
		for _, behind := range []string{"", " ", "a", "1", ",", " 'b'"} {
			got, f := Tokens(" " + q + behind)
			if f != (api.Fault{}) || got[0] != quoted1(1, string(b)) || len(got) > 2 || len(got) == 2 && got[1].At < 1+len(q) {
				t.Fatalf("%q with %q behind it: %v, %v", q, behind, got, f)
			}
		}
	}
}

// P2, rule 4: no answer shares memory with another.
func TestAnswersShareNothing(t *testing.T) {
	const s = "a 1 'b' <"
	a, _ := Tokens(s)
	b, _ := Tokens(s)
	clear(a[:cap(a)])
	c, _ := Tokens(s)
	if len(b) != 4 || !slices.Equal(b, c) || b[0] != word1(0, "A") {
		t.Errorf("%v, %v", b, c)
	}
}
