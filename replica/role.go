package replica

import (
	"slices"

	"synod/api"
)

// role is one of idle, *preparing and *leading.
type role interface {
	below(ballot int) bool
	tell() api.Role
}

// standing is what all roles have in common; the ballot of one that is idle is 0, which is below all.
type standing struct {
	kind, ballot int
}

func (s standing) below(ballot int) bool {
	return s.ballot < ballot
}

func (s standing) tell() api.Role {
	return api.Role{Kind: s.kind, Ballot: s.ballot}
}

type idle struct {
	standing
}

// preparing keeps of each slot the vote of the greatest ballot, of those who promised.
type preparing struct {
	standing
	promises tally
	kept     [api.Slots]api.Vote
}

func (p *preparing) keep(votes []api.Vote) {
	for _, v := range votes {
		if v.Ballot > p.kept[v.Slot].Ballot {
			p.kept[v.Slot] = v
		}
	}
}

// leading remembers of each slot what was proposed in this lead alone.
type leading struct {
	standing
	next     int
	proposed [api.Slots]proposal
}

type proposal struct {
	value api.Post
	votes tally
}

func (l *leading) tell() api.Role {
	told := l.standing.tell()
	told.Next = l.next
	return told
}

// hasProposed may look at all slots: one without a proposal has nothing, which is of no client.
func (l *leading) hasProposed(p api.Post) bool {
	return slices.ContainsFunc(l.proposed[:], func(other proposal) bool { return sameName(other.value, p) })
}

// tally counts each replica once, however often its message comes.
type tally struct {
	voted [api.MaxReplicas]bool
	count int
}

// add tells whether this one was not counted yet.
func (t *tally) add(replica int) bool {
	if t.voted[replica] {
		return false
	}
	t.voted[replica] = true
	t.count++
	return true
}

func (t *tally) majority(replicas int) bool {
	return 2*t.count > replicas
}
