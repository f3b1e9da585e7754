package parse

import (
	"slices"
	"strings"

	"annals/api"
	"annals/lex"
)

// ended is the kind of what stands behind all tokens; no token is of it, so nothing but the end of a statement passes it.
const ended = 0

// kept are the words that the rules keep for themselves, so that a name can't be taken for one.
const kept = " CREATE TABLE INDEX ON NO OVERLAP INT TEXT INSERT INTO VALUES FROM TO FOREVER UPDATE SET FOR WHERE DELETE BEGIN COMMIT ROLLBACK SELECT COALESCE COUNT SUM UNION EXCEPT AS OF AT DURING ORDER BY AND OR NOT "

// reader goes through tokens, and gives up at the first with which no statement goes on.
type reader struct {
	tokens []lex.Token // those that are still to be read
	depth  int         // how many parts of an expression the next token is within
}

// refuse gives up at the next token.
func (r *reader) refuse(code api.Errno) { giveUp(code, r.tokens[0].At) }

// take passes a token of a kind.
func (r *reader) take(kind int) lex.Token {
	token := r.tokens[0]
	if token.Kind != kind {
		r.refuse(api.ErrSyntax)
	}
	r.tokens = r.tokens[1:]
	return token
}

// may passes a word or sign that is one of these, and answers it; nothing, if the next token is none of them.
func (r *reader) may(texts ...string) string {
	token := r.tokens[0]
	// A quoted text may read like any of them, and is none.
	own := token.Kind == lex.Word || token.Kind == lex.Sign
	if !own || !slices.Contains(texts, token.Text) {
		return ""
	}
	return r.take(token.Kind).Text
}

// must passes a word or sign that is one of these, and answers it.
func (r *reader) must(texts ...string) string {
	text := r.may(texts...)
	if text == "" {
		r.refuse(api.ErrSyntax)
	}
	return text
}

func (r *reader) name() string {
	word := r.tokens[0].Text
	if len(word) > api.MaxName || strings.Contains(kept, " "+word+" ") {
		r.refuse(api.ErrSyntax)
	}
	return r.take(lex.Word).Text
}

func (r *reader) number() int64 { return r.take(lex.Number).Int }

func (r *reader) period() api.Period {
	first := r.take(lex.Number)
	r.must("TO")
	to := int64(api.Forever)
	if r.may("FOREVER") == "" {
		to = r.number()
	}
	if first.Int >= to || to > api.Forever {
		giveUp(api.ErrPeriod, first.At)
	}
	return api.Period{From: first.Int, To: to}
}

// instant is a number as the period of that instant alone.
func (r *reader) instant() api.Period {
	t := r.take(lex.Number)
	if t.Int >= api.Forever {
		giveUp(api.ErrPeriod, t.At)
	}
	return api.Period{From: t.Int, To: t.Int + 1}
}

// list is one or more things with commas between.
func list[T any](r *reader, read func() T) []T {
	out := []T{read()}
	for r.may(",") != "" {
		out = append(out, read())
	}
	return out
}

// bracketed is a list in brackets.
func bracketed[T any](r *reader, read func() T) []T {
	r.must("(")
	out := list(r, read)
	r.must(")")
	return out
}
