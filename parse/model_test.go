package parse

import (
	"slices"
	"strings"
	"testing"

	"annals/api"
	"annals/lex"
)

// rules are those of the chapter, as it writes them: [ ] for what may be left out, { } for what may stand any number of times, | for a choice.
func rules() map[string]string {
	return map[string]string{
		"whole": "statement [ ; ]",
		"statement": "CREATE TABLE name ( name kind { , name kind } ) [ NO OVERLAP ( name { , name } ) ]" +
			" | CREATE INDEX ON name" +
			" | INSERT INTO name VALUES ( expr { , expr } ) FROM period" +
			" | UPDATE name SET name = expr { , name = expr } [ FOR period ] [ WHERE expr ]" +
			" | DELETE FROM name [ FOR period ] [ WHERE expr ]" +
			" | BEGIN | COMMIT | ROLLBACK" +
			" | query { UNION query | EXCEPT query } [ AS OF number ] [ AT number | DURING period ] [ ORDER BY name { , name } ]",
		"kind":     "INT | TEXT",
		"query":    "SELECT [ COALESCE ] what FROM name [ , name ] [ WHERE expr ]",
		"what":     "* | COUNT | SUM name | item { , item }",
		"item":     "name | name . name",
		"period":   "number TO number | number TO FOREVER",
		"expr":     "either { OR either }",
		"either":   "negated { AND negated }",
		"negated":  "NOT negated | compared",
		"compared": "sum | sum = sum | sum <> sum | sum <= sum | sum >= sum | sum < sum | sum > sum",
		"sum":      "product { + product | - product }",
		"product":  "smallest { * smallest }",
		"smallest": "number | quoted | - smallest | ( expr ) | item",
	}
}

// model goes through tokens by the rules in all ways at once. What was tried furthest from the left is the first token with which nothing goes on.
type model struct {
	rules  map[string][]string
	tokens []lex.Token
	far    int
	known  map[call][]int
}

// call is a rule that is followed from a place on.
type call struct {
	rule string
	at   int
}

func newModel() *model {
	m := &model{rules: map[string][]string{}}
	for name, rule := range rules() {
		m.rules[name] = strings.Fields(rule)
	}
	return m
}

// place is the first token that doesn't go on, that behind the last one too; -1, if the tokens are a statement.
func (m *model) place(tokens []lex.Token) int {
	m.tokens, m.far, m.known = tokens, 0, map[call][]int{}
	ends := m.rule("whole", 0)
	if slices.Contains(ends, len(tokens)) {
		return -1
	}
	// Where a statement has ended, only the end of the text goes on.
	return max(m.far, slices.Max(append(ends, 0)))
}

// rule is all places behind what a rule reads from a place on.
func (m *model) rule(name string, at int) []int {
	key := call{name, at}
	if ends, ok := m.known[key]; ok {
		return ends
	}
	ends := m.choice(m.rules[name], at)
	m.known[key] = ends
	return ends
}

func (m *model) choice(rule []string, at int) []int {
	var ends []int
	for _, part := range split(rule) {
		ends = append(ends, m.sequence(part, []int{at})...)
	}
	return unique(ends)
}

func (m *model) sequence(rule []string, ats []int) []int {
	for len(rule) > 0 && len(ats) > 0 {
		size := 1
		switch rule[0] {
		case "[":
			size = closed(rule)
			ats = unique(append(ats, m.each(rule[1:size-1], ats)...))
		case "{":
			size = closed(rule)
			for more := ats; len(more) > 0; {
				more = slices.DeleteFunc(m.each(rule[1:size-1], more), func(at int) bool { return slices.Contains(ats, at) })
				ats = unique(append(ats, more...))
			}
		default:
			var ends []int
			for _, at := range ats {
				ends = append(ends, m.symbol(rule[0], at)...)
			}
			ats = unique(ends)
		}
		rule = rule[size:]
	}
	return ats
}

func (m *model) each(rule []string, ats []int) []int {
	var ends []int
	for _, at := range ats {
		ends = append(ends, m.choice(rule, at)...)
	}
	return unique(ends)
}

func (m *model) symbol(symbol string, at int) []int {
	if m.rules[symbol] != nil {
		return m.rule(symbol, at)
	}
	m.far = max(m.far, at)
	if at == len(m.tokens) || !fits(m.tokens[at], symbol) {
		return nil
	}
	return []int{at + 1}
}

func fits(t lex.Token, symbol string) bool {
	switch symbol {
	case "name":
		return t.Kind == lex.Word && len(t.Text) <= 24 && !strings.Contains(" "+words+" ", " "+t.Text+" ")
	case "number":
		return t.Kind == lex.Number
	case "quoted":
		return t.Kind == lex.Quoted
	}
	return (t.Kind == lex.Word || t.Kind == lex.Sign) && t.Text == symbol
}

// split is the parts of a choice.
func split(rule []string) [][]string {
	parts := [][]string{nil}
	depth := 0
	for _, s := range rule {
		switch s {
		case "[", "{":
			depth++
		case "]", "}":
			depth--
		case "|":
			if depth == 0 {
				parts = append(parts, nil)
				continue
			}
		}
		parts[len(parts)-1] = append(parts[len(parts)-1], s)
	}
	return parts
}

// closed is how many symbols there are up to the bracket that closes the first one.
func closed(rule []string) int {
	depth := 0
	for i, s := range rule {
		switch s {
		case "[", "{":
			depth++
		case "]", "}":
			depth--
		}
		if depth == 0 {
			return i + 1
		}
	}
	return len(rule)
}

func unique(list []int) []int {
	slices.Sort(list)
	return slices.Compact(list)
}

// fault is what the document asks for some tokens, none of them too deep.
func (m *model) fault(text string, tokens []lex.Token) api.Fault {
	place := m.place(tokens)
	read := tokens
	if place >= 0 {
		read = tokens[:place]
	}
	// TO stands in periods alone, and AT ahead of an instant.
	for i, t := range read {
		if i+1 < len(read) && fits(t, "AT") && read[i+1].Int >= forever {
			return api.Fault{Code: api.ErrPeriod, At: read[i+1].At}
		}
		if i+2 < len(read) && fits(read[i+1], "TO") {
			to := read[i+2].Int
			if fits(read[i+2], "FOREVER") {
				to = forever
			}
			if t.Int >= to || to > forever {
				return api.Fault{Code: api.ErrPeriod, At: t.At}
			}
		}
	}
	switch {
	case place < 0:
		return api.Fault{}
	case place == len(tokens):
		return api.Fault{Code: api.ErrSyntax, At: len(text)}
	}
	return api.Fault{Code: api.ErrSyntax, At: tokens[place].At}
}

// thrown is some tokens of a rule, as the dice fall.
func (m *model) thrown(x *dice, rule []string, room int) []string {
	var out []string
	parts := split(rule)
	part := parts[x.below(len(parts))]
	if room <= 0 {
		// The last way of each rule that calls itself is a short one.
		part = parts[len(parts)-1]
	}
	for i := 0; i < len(part); i++ {
		switch s := part[i]; s {
		case "[", "{":
			size := closed(part[i:])
			for n := 0; x.below(3) == 0 && room > 0 && (s == "{" || n == 0); n++ {
				out = append(out, m.thrown(x, part[i+1:i+size-1], room-1)...)
			}
			i += size - 1
		default:
			if rule := m.rules[s]; rule != nil {
				out = append(out, m.thrown(x, rule, room-1)...)
			} else {
				out = append(out, piece(x, s))
			}
		}
	}
	return out
}

// piece is a token of a kind, or a sign or word as it is.
func piece(x *dice, symbol string) string {
	pick := func(list ...string) string { return list[x.below(len(list))] }
	switch symbol {
	case "name":
		return pick("a", "B", "t", "_u1", "abcdefghijklmnopqrstuvwx", "counts")
	case "number":
		return pick("0", "1", "2", "3", "5", "8", "007", "1099511627775", "1099511627776", "1099511627777", "999999999999999999")
	case "quoted":
		return pick("''", "'x'", "'it''s'", "'FROM'", "')'")
	}
	if x.below(2) == 0 {
		return strings.ToLower(symbol)
	}
	return symbol
}

// anyPiece is a token of any kind.
func anyPiece(x *dice) string {
	list := append(strings.Fields(words), strings.Fields("( ) , ; . = <> <= >= < > + - * ( ) , name number quoted abcdefghijklmnopqrstuvwxy 'TO' '('")...)
	return piece(x, list[x.below(len(list))])
}

// joined is tokens with gaps between.
func joined(x *dice, pieces []string) string {
	var out strings.Builder
	for _, p := range pieces {
		out.WriteString(p + [...]string{" ", " ", "\n", "  ", "\t"}[x.below(5)])
	}
	return out.String()
}

// P15.1 to P15.4: statements thrown by the chapter's rules, whole and with a token changed, cut or put in, have the fault that these rules tell.
func TestAgainstRules(t *testing.T) {
	m := newModel()
	x := dice(15)
	tally := map[api.Errno]int{}
	for range 30000 {
		pieces := m.thrown(&x, m.rules["whole"], 8+x.below(6))
		for range x.below(3) {
			at := x.below(len(pieces) + 1)
			end := min(at+x.below(2), len(pieces))
			var in []string
			if x.below(3) > 0 {
				in = []string{anyPiece(&x)}
			}
			pieces = slices.Replace(pieces, at, end, in...)
		}
		text := joined(&x, pieces)
		tokens, f := lex.Tokens(text)
		if f != (api.Fault{}) || deep(tokens) {
			continue
		}
		want := m.fault(text, tokens)
		if _, got := Parse(text); got != want {
			t.Fatalf("Parse(%q): %v, want %v", text, got, want)
		}
		tally[want.Code]++
	}
	if tally[api.OK] < 3000 || tally[api.ErrSyntax] < 3000 || tally[api.ErrPeriod] < 1000 {
		t.Errorf("how often: %v", tally)
	}
}

// deep: might some token be too deep? The rules of the model don't count.
func deep(tokens []lex.Token) bool {
	n := 0
	for _, t := range tokens {
		if fits(t, "NOT") || fits(t, "-") || fits(t, "(") {
			n++
		}
	}
	return n > 32
}

// P15.4: of each thrown statement each beginning, and each of them with each kind of token behind it.
func TestBeginnings(t *testing.T) {
	m := newModel()
	x := dice(154)
	for range 25 {
		pieces := m.thrown(&x, m.rules["whole"], 9)
		for n := range pieces {
			for _, behind := range strings.Fields(words + " ( ) , ; . = <> <= >= < > + - * x 7 'x' 'FROM'") {
				text := strings.Join(append(slices.Clone(pieces[:n]), behind), " ")
				tokens, f := lex.Tokens(text)
				if f != (api.Fault{}) || deep(tokens) {
					continue
				}
				if _, got := Parse(text); got != m.fault(text, tokens) {
					t.Fatalf("Parse(%q): %v, want %v", text, got, m.fault(text, tokens))
				}
			}
		}
	}
}

// P1: any tokens, and any bytes, are answered; a fault lies within the text or at its end, and beside it stands nothing.
func TestAnyTexts(t *testing.T) {
	m := newModel()
	x := dice(1)
	for range 20000 {
		var pieces []string
		for range x.below(12) {
			pieces = append(pieces, anyPiece(&x))
		}
		text := joined(&x, pieces)
		tokens, _ := lex.Tokens(text)
		if _, f := Parse(text); f != m.fault(text, tokens) {
			t.Fatalf("Parse(%q): %v, want %v", text, f, m.fault(text, tokens))
		}
		raw := make([]byte, x.below(20))
		for i := range raw {
			raw[i] = byte(x.below(256))
		}
		if got, f := Parse(string(raw)); f.Code == api.OK || f.At < 0 || f.At > len(raw) || got.Kind != "" {
			t.Fatalf("Parse(%q): %v %v", raw, got, f)
		}
	}
	for _, piece := range strings.Fields(words + " ( ) , ; . = <> <= >= < > + - * x 7 'x'") {
		for _, head := range []string{"", "select a from t where ", "select ", "create table t (", "insert into t values ("} {
			text := head + strings.Repeat(piece+" ", (api.MaxSource-len(head))/(len(piece)+1))
			if _, f := Parse(text); f.At > len(text) || f.Code == api.OK && piece != ";" {
				t.Errorf("%q and many %q: %v", head, piece, f)
			}
		}
	}
}
