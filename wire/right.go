package wire

import "synod/api"

// A ballot leaves room for eight replica numbers in a round, though there are seven at most.
const maxBallot = 8*api.MaxRound + 7

// parts tells which of a message's fields its kind has; Kind, From and To stand in all.
type parts struct {
	ballot, slot, value, accepted bool
}

var kinds = [api.Refuse + 1]parts{
	api.Prepare: {ballot: true},
	api.Promise: {ballot: true, accepted: true},
	api.Propose: {ballot: true, slot: true, value: true},
	api.Accept:  {ballot: true, slot: true},
	api.Decide:  {slot: true, value: true},
	api.Refuse:  {ballot: true},
}

func rightKind(kind int) bool {
	return within(kind, api.Prepare, api.Refuse)
}

// partsOf takes kinds that are not right too, for bytes are read ahead of being judged.
func partsOf(kind int) parts {
	if !rightKind(kind) {
		return parts{}
	}
	return kinds[kind]
}

func rightMessage(m api.Message) bool {
	has := partsOf(m.Kind)
	return rightKind(m.Kind) && rightReplica(m.From) && rightReplica(m.To) &&
		fits(has.ballot, rightBallot(m.Ballot), m.Ballot == 0) &&
		fits(has.slot, rightSlot(m.Slot), m.Slot == 0) &&
		fits(has.value, rightValue(m.Value), IsNothing(m.Value)) &&
		fits(has.accepted, rightVotes(m.Accepted), len(m.Accepted) == 0)
}

// fits: a part that the kind has must be right, one that it has not must be empty.
func fits(has, right, empty bool) bool {
	if has {
		return right
	}
	return empty
}

func rightReplica(replica int) bool {
	return within(replica, 0, api.MaxReplicas-1)
}

func rightBallot(ballot int) bool {
	return within(ballot, 1, maxBallot)
}

func rightSlot(slot int) bool {
	return within(slot, 0, api.Slots-1)
}

func rightValue(p api.Post) bool {
	return IsNothing(p) || RightPost(p)
}

// IsNothing asks more than Client 0, for all else must be empty too.
func IsNothing(p api.Post) bool {
	return p == api.Post{}
}

// RightPost is false of nothing, which is a value but no post.
func RightPost(p api.Post) bool {
	return within(p.Client, 1, api.MaxClient) && within(p.Seq, 1, api.MaxSeq) &&
		within(p.Channel, 0, api.Channels-1) && len(p.Text) <= api.MaxText
}

func rightVotes(votes []api.Vote) bool {
	last := -1
	for _, v := range votes {
		if v.Slot <= last || !rightSlot(v.Slot) || !rightBallot(v.Ballot) || !rightValue(v.Value) {
			return false
		}
		last = v.Slot
	}
	return true
}

func within(n, least, greatest int) bool {
	return least <= n && n <= greatest
}
