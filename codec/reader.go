package codec

import "annals/api"

// reader goes through bytes, and gives up at the first that can't be so.
type reader struct {
	bytes []byte
	at    int
}

func (r *reader) next() byte {
	if r.at >= len(r.bytes) {
		giveUp(api.ErrShort, r.at)
	}
	b := r.bytes[r.at]
	r.at++
	return b
}

func (r *reader) value() api.Value {
	start := r.at
	switch r.next() {
	case api.Int:
		return api.Value{Kind: api.Int, Int: r.number()}
	case api.Text:
		text := r.text()
		// A Text is known to be too long only once it has ended: what is wrong within it is told ahead of that.
		mustFit(len(text), start)
		return api.Value{Kind: api.Text, Text: text}
	}
	giveUp(api.ErrKind, start)
	return api.Value{}
}

func (r *reader) number() int64 {
	if len(r.bytes)-r.at < wordSize {
		giveUp(api.ErrShort, len(r.bytes))
	}
	r.at += wordSize
	return int64(Get(r.bytes[r.at-wordSize:r.at]) - middle)
}

func (r *reader) text() string {
	var out []byte
	for {
		b := r.next()
		if b == 0 && r.ended() {
			return string(out)
		}
		out = append(out, b)
	}
}

// ended reads the byte behind a 0 in a Text: does it end the Text?
func (r *reader) ended() bool {
	b := r.next()
	if b != 0 && b != escape {
		giveUp(api.ErrByte, r.at-1)
	}
	return b == 0
}
