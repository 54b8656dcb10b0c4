package wire

import (
	"strings"

	"synod/api"
)

// Unpack reads what Pack wrote; ErrWire, if s is the Pack of no right message.
func Unpack(s string) (api.Message, api.Errno) {
	r := reader{rest: s}
	m := r.message()
	if r.short || r.rest != "" || !rightMessage(m) {
		return api.Message{}, api.ErrWire
	}
	return m, api.OK
}

// reader reads on when bytes are wanting, and remembers it, so that it is asked once, at the end.
type reader struct {
	rest  string
	short bool
}

func (r *reader) message() api.Message {
	var m api.Message
	m.Kind = r.number(1)
	m.From = r.number(1)
	m.To = r.number(1)
	has := partsOf(m.Kind)
	if has.ballot {
		m.Ballot = r.number(2)
	}
	if has.slot {
		m.Slot = r.number(1)
	}
	if has.value {
		m.Value = r.value()
	}
	if has.accepted {
		m.Accepted = r.votes()
	}
	return m
}

func (r *reader) votes() []api.Vote {
	var votes []api.Vote
	for range r.number(1) {
		var v api.Vote
		v.Slot = r.number(1)
		v.Ballot = r.number(2)
		v.Value = r.value()
		votes = append(votes, v)
	}
	return votes
}

func (r *reader) value() api.Post {
	var p api.Post
	p.Client = r.number(1)
	if p.Client == 0 {
		return p
	}
	p.Seq = r.number(2)
	p.Channel = r.number(1)
	// A copy, so that a short text does not hold on to the whole string that was handed in.
	p.Text = strings.Clone(r.take(r.number(1)))
	return p
}

// number undoes what putNumbers does to one number: the low byte is the first.
func (r *reader) number(width int) int {
	n := 0
	for i, b := range []byte(r.take(width)) {
		n |= int(b) << (8 * i)
	}
	return n
}

func (r *reader) take(n int) string {
	if n > len(r.rest) {
		r.short = true
		n = len(r.rest)
	}
	taken := r.rest[:n]
	r.rest = r.rest[n:]
	return taken
}
