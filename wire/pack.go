// Package wire: messages as bytes, and which messages are right.
package wire

import "synod/api"

// Pack writes a message as bytes; ErrWire, if it is not right.
func Pack(m api.Message) (string, api.Errno) {
	if !rightMessage(m) {
		return "", api.ErrWire
	}
	has := partsOf(m.Kind)
	out := putNumbers(nil, 1, m.Kind, m.From, m.To)
	if has.ballot {
		out = putNumbers(out, 2, m.Ballot)
	}
	if has.slot {
		out = putNumbers(out, 1, m.Slot)
	}
	if has.value {
		out = putValue(out, m.Value)
	}
	if has.accepted {
		out = putVotes(out, m.Accepted)
	}
	return string(out), api.OK
}

func putVotes(out []byte, votes []api.Vote) []byte {
	out = putNumbers(out, 1, len(votes))
	for _, v := range votes {
		out = putNumbers(out, 1, v.Slot)
		out = putNumbers(out, 2, v.Ballot)
		out = putValue(out, v.Value)
	}
	return out
}

func putValue(out []byte, p api.Post) []byte {
	out = putNumbers(out, 1, p.Client)
	if IsNothing(p) {
		return out
	}
	out = putNumbers(out, 2, p.Seq)
	out = putNumbers(out, 1, p.Channel, len(p.Text))
	return append(out, p.Text...)
}

// putNumbers is the one place that settles the order of bytes: the low one first (P3).
func putNumbers(out []byte, width int, numbers ...int) []byte {
	for _, n := range numbers {
		for range width {
			out = append(out, byte(n))
			n >>= 8
		}
	}
	return out
}
