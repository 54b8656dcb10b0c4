package replica

import (
	"slices"

	"synod/api"
	"synod/wire"
)

// decision has a flag of its own, for nothing can be decided too.
type decision struct {
	made  bool
	value api.Post
}

func (r *Replica) decide(slot int, value api.Post) {
	r.decided[slot] = decision{made: true, value: value}
}

// hasDecided looks at slots behind a gap too, where Log does not reach.
func (r *Replica) hasDecided(p api.Post) bool {
	return slices.ContainsFunc(r.decided[:], func(other decision) bool { return sameName(other.value, p) })
}

// Log tells what is decided, up to the first slot that is not (P8).
func (r *Replica) Log() []api.Post {
	var log []api.Post
	for _, d := range r.decided {
		if !d.made {
			break
		}
		log = append(log, d.value)
	}
	return log
}

// Chat tells a channel's posts in the log, each Client and Seq once (P8).
func (r *Replica) Chat(channel int) []api.Post {
	var chat []api.Post
	log := r.Log()
	for i, p := range log {
		if p.Channel == channel && !wire.IsNothing(p) && !hasName(log[:i], p) {
			chat = append(chat, p)
		}
	}
	return chat
}

func hasName(posts []api.Post, p api.Post) bool {
	return slices.ContainsFunc(posts, func(other api.Post) bool { return sameName(other, p) })
}

func sameName(a, b api.Post) bool {
	return a.Client == b.Client && a.Seq == b.Seq
}
