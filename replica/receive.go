package replica

import "synod/api"

// Receive lets a right message come to the replica.
func (r *Replica) Receive(m api.Message) {
	handlers := [...]func(*Replica, api.Message){
		api.Prepare: (*Replica).takePrepare,
		api.Promise: (*Replica).takePromise,
		api.Propose: (*Replica).takePropose,
		api.Accept:  (*Replica).takeAccept,
		api.Decide:  (*Replica).takeDecide,
		api.Refuse:  (*Replica).takeRefuse,
	}
	handlers[m.Kind](r, m)
}

func (r *Replica) takePrepare(m api.Message) {
	if r.obeys(m) {
		r.send(api.Message{Kind: api.Promise, Ballot: m.Ballot, Accepted: r.allAccepted()}, m.From)
	}
}

func (r *Replica) takePromise(m api.Message) {
	p, ok := r.role.(*preparing)
	if !ok || p.ballot != m.Ballot || !p.promises.add(m.From) {
		return
	}
	p.keep(m.Accepted)
	if p.promises.majority(r.replicas) {
		r.lead(p)
	}
}

func (r *Replica) takePropose(m api.Message) {
	if r.obeys(m) {
		r.accepted[m.Slot] = api.Vote{Slot: m.Slot, Ballot: m.Ballot, Value: m.Value}
		r.send(api.Message{Kind: api.Accept, Ballot: m.Ballot, Slot: m.Slot}, m.From)
	}
}

func (r *Replica) takeAccept(m api.Message) {
	l, ok := r.role.(*leading)
	if !ok || l.ballot != m.Ballot || r.decided[m.Slot].made {
		return
	}
	proposed := &l.proposed[m.Slot]
	if proposed.votes.add(m.From) && proposed.votes.majority(r.replicas) {
		r.decide(m.Slot, proposed.value)
		r.send(api.Message{Kind: api.Decide, Slot: m.Slot, Value: proposed.value}, r.others()...)
	}
}

func (r *Replica) takeDecide(m api.Message) {
	if !r.decided[m.Slot].made {
		r.decide(m.Slot, m.Value)
	}
}

func (r *Replica) takeRefuse(m api.Message) {
	r.yield(m.Ballot)
}

// obeys promises the ballot of a Prepare or Propose, or refuses it.
func (r *Replica) obeys(m api.Message) bool {
	if m.Ballot < r.promised {
		r.send(api.Message{Kind: api.Refuse, Ballot: r.promised}, m.From)
		return false
	}
	r.yield(m.Ballot)
	r.promised = m.Ballot
	return true
}

func (r *Replica) yield(ballot int) {
	if r.role.below(ballot) {
		r.role = idle{}
	}
	r.seen = max(r.seen, ballot)
}

// lead proposes anew what a majority may have accepted already, and nothing for the gaps ahead of it.
func (r *Replica) lead(p *preparing) {
	l := &leading{standing: standing{api.Leading, p.ballot}, next: r.nextBehind(p)}
	r.role = l
	for slot := range l.next {
		if !r.decided[slot].made {
			r.propose(l, slot, p.kept[slot].Value)
		}
	}
}

// nextBehind gives the slot behind all that are decided here or kept.
func (r *Replica) nextBehind(p *preparing) int {
	next := api.Slots
	for next > 0 && !r.decided[next-1].made && p.kept[next-1].Ballot == 0 {
		next--
	}
	return next
}

// allAccepted makes a new list, for it leaves with a message.
func (r *Replica) allAccepted() []api.Vote {
	var votes []api.Vote
	for _, v := range r.accepted {
		if v.Ballot > 0 {
			votes = append(votes, v)
		}
	}
	return votes
}
