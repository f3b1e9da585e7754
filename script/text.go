package script

import (
	"strconv"
	"strings"

	"annals/api"
	"annals/lex"
)

// done is the answer to what went well and has nothing to tell.
const done = "ok"

// maxDigits is how many digits a number in a line has at most.
const maxDigits = 9

// maxWords is how many words a command has at most.
const maxWords = 4

// words is the first word of a line, and the others. Behind the greatest number of words the rest isn't taken apart: no command has more, and a line may be long.
func words(line string) (string, []string) {
	list := strings.SplitN(line, " ", maxWords+1)
	return list[0], list[1:]
}

// number is the number that a word is; false, if it is none.
func number(word string) (int, bool) {
	figures, below := strings.CutPrefix(word, "-")
	if figures == "" || len(figures) > maxDigits {
		return 0, false
	}
	n := 0
	for _, c := range figures {
		if c < '0' || c > '9' {
			return 0, false
		}
		n = 10*n + int(c-'0')
	}
	if below {
		n = -n
	}
	return n, true
}

// flags is which writes a crash keeps, by a word of noughts and ones; false, if it is none.
func flags(word string) ([]bool, bool) {
	if word == "-" {
		return []bool{false}, true
	}
	var out []bool
	for _, c := range word {
		if c != '0' && c != '1' {
			return nil, false
		}
		out = append(out, c == '1')
	}
	return out, true
}

// fact is how a fact is written.
func fact(f api.Fact) string {
	var out strings.Builder
	for _, v := range f.Row {
		out.WriteString(value(v) + " ")
	}
	return out.String() + "from " + instant(f.Period.From) + " to " + instant(f.Period.To)
}

func value(v api.Value) string {
	if v.Kind == api.Text {
		return lex.Quote(v.Text)
	}
	return digits(v.Int)
}

func instant(t int64) string {
	if t == api.Forever {
		return "forever"
	}
	return digits(t)
}

func digits(n int64) string { return strconv.FormatInt(n, 10) }

func refused(code api.Errno) string { return "error " + digits(int64(code)) }

// unknown is the answer to a line that is no command.
func unknown() []string { return []string{refused(api.ErrCommand)} }
