// Package replica: one replica, which campaigns, proposes, and votes on what comes to it.
package replica

import (
	"slices"

	"synod/api"
	"synod/mail"
)

// A ballot is so many times its round, and the number of the replica that campaigns.
const ballotsPerRound = 8

// Replica is one of several that send to each other through one net.
type Replica struct {
	number, replicas int
	net              *mail.Net
	promised, seen   int
	accepted         [api.Slots]api.Vote
	decided          [api.Slots]decision
	role             role
}

// New makes an idle replica, one of so many.
func New(number, replicas int, net *mail.Net) *Replica {
	return &Replica{number: number, replicas: replicas, net: net, role: idle{}}
}

// Campaign prepares a ballot of a round above all of which it heard (P4).
func (r *Replica) Campaign() api.Errno {
	round := max(r.promised, r.seen)/ballotsPerRound + 1
	if round > api.MaxRound {
		return api.ErrRound
	}
	if !r.net.Room(r.replicas) {
		return api.ErrNet
	}
	r.promised = ballotsPerRound*round + r.number
	r.role = &preparing{standing: standing{api.Preparing, r.promised}}
	r.send(api.Message{Kind: api.Prepare, Ballot: r.promised}, r.all()...)
	return api.OK
}

// Submit proposes a right post for the next slot (P5).
func (r *Replica) Submit(p api.Post) api.Errno {
	l, ok := r.role.(*leading)
	switch {
	case !ok:
		return api.ErrLeader
	case r.hasDecided(p) || l.hasProposed(p):
		return api.ErrAgain
	case l.next == api.Slots:
		return api.ErrFull
	case !r.net.Room(r.replicas):
		return api.ErrNet
	}
	r.propose(l, l.next, p)
	l.next++
	return api.OK
}

// Crash keeps what others may build on: what was promised, accepted and decided (P7).
func (r *Replica) Crash() {
	r.seen = 0
	r.role = idle{}
}

// Role tells how it stands (P8).
func (r *Replica) Role() api.Role {
	told := r.role.tell()
	told.Promised = r.promised
	return told
}

func (r *Replica) propose(l *leading, slot int, value api.Post) {
	l.proposed[slot].value = value
	r.send(api.Message{Kind: api.Propose, Ballot: l.ballot, Slot: slot, Value: value}, r.all()...)
}

func (r *Replica) send(m api.Message, to ...int) {
	m.From = r.number
	for _, number := range to {
		m.To = number
		r.net.Put(m)
	}
}

// all has this one too: it asks itself as it asks the others.
func (r *Replica) all() []int {
	numbers := make([]int, r.replicas)
	for i := range numbers {
		numbers[i] = i
	}
	return numbers
}

func (r *Replica) others() []int {
	return slices.Delete(r.all(), r.number, r.number+1)
}
