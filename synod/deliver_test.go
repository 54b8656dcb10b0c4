package synod_test

import (
	"math"
	"slices"
	"testing"

	"synod/api"
)

func vote(slot, ballot int, value api.Post) api.Vote {
	return api.Vote{Slot: slot, Ballot: ballot, Value: value}
}

func TestDeliverOfNoMessage(t *testing.T) {
	r := begin(t, 3)
	for _, k := range []int{-1, 0, 1, math.MaxInt, math.MinInt} {
		r.refusesDeliver(k)
	}
	r.campaign(1)
	for _, k := range []int{-1, -3, 3, 4, 200, 1 << 32, math.MaxInt, math.MinInt} {
		r.refusesDeliver(k)
	}
}

func TestDeliverTakesOutOneMessage(t *testing.T) {
	for k := range 3 {
		r := begin(t, 3)
		r.campaign(1)
		want := slices.Delete(prepares(3, 1, 9), k, k+1)
		r.deliver(k)
		r.checkNet(append(want, promise(k, 1, 9))...)
	}
}

func TestNetIsInOrder(t *testing.T) {
	r := begin(t, 3)
	r.campaign(2)
	r.campaign(0)
	r.campaign(1)
	r.checkNet(slices.Concat(prepares(3, 2, 10), prepares(3, 0, 8), prepares(3, 1, 9))...)
	r.deliver(4)
	r.deliver(7)
	r.checkNet(prepare(2, 0, 10), prepare(2, 1, 10), prepare(2, 2, 10), prepare(0, 0, 8), prepare(0, 2, 8),
		prepare(1, 0, 9), prepare(1, 1, 9), refuse(1, 0, 9), refuse(2, 1, 10))
}

func TestPrepareToIdle(t *testing.T) {
	r := begin(t, 3)
	r.campaign(1)
	r.campaign(2)
	r.come(api.Prepare, 1, 0, promise(0, 1, 9))
	r.checkIdle(0, 9)
	r.come(api.Prepare, 2, 0, promise(0, 2, 10)) // a greater one
	r.checkIdle(0, 10)

	r = begin(t, 3)
	r.campaign(1)
	r.campaign(2)
	r.pass(api.Prepare, 2, 0)
	r.come(api.Prepare, 1, 0, refuse(0, 1, 10)) // a lesser one
	r.checkIdle(0, 10)
	r.come(api.Prepare, 1, 2, refuse(2, 1, 10))
	r.come(api.Refuse, 0, 1)
	r.checkIdle(1, 9)
	r.come(api.Prepare, 1, 1, promise(1, 1, 9)) // the one that it has promised
	r.checkIdle(1, 9)
}

func TestPrepareToPreparing(t *testing.T) {
	r := begin(t, 3)
	r.campaign(1)
	r.campaign(2)
	r.come(api.Prepare, 1, 2, refuse(2, 1, 10))
	r.checkPreparing(2, 10)
	r.come(api.Prepare, 2, 2, promise(2, 2, 10))
	r.checkPreparing(2, 10)
	r.come(api.Prepare, 2, 1, promise(1, 2, 10))
	r.checkIdle(1, 10)
}

func TestPrepareToLeading(t *testing.T) {
	r := begin(t, 3)
	r.campaign(1)
	r.campaign(2)
	r.pass(api.Prepare, 2, 0, 1)
	r.pass(api.Promise, 0, 2)
	r.pass(api.Promise, 1, 2)
	r.checkLeading(2, 10, 0)
	r.come(api.Prepare, 1, 2, refuse(2, 1, 10))
	r.checkLeading(2, 10, 0)
	r.come(api.Prepare, 2, 2, promise(2, 2, 10))
	r.checkLeading(2, 10, 0)
	r.campaign(0)
	r.come(api.Prepare, 0, 2, promise(2, 0, 16))
	r.checkIdle(2, 16)
}

// With a Promise comes what was accepted, by its slots, each with the last ballot and value.
func TestPromiseHasAllThatIsAccepted(t *testing.T) {
	r := led(t, 3, 0)
	r.submit(0, small)
	r.submit(0, hi)
	r.submit(0, great)
	r.deliver(7) // great to 1
	r.deliver(1) // small to 1
	r.campaign(2)
	r.come(api.Prepare, 2, 1, promise(1, 2, 18, vote(0, 8, small), vote(2, 8, great)))
	r.come(api.Prepare, 2, 2, promise(2, 2, 18))
	r.come(api.Promise, 1, 2)
	r.come(api.Promise, 2, 2, slices.Concat(proposals(3, 2, 18, 0, small), proposals(3, 2, 18, 1, nothing), proposals(3, 2, 18, 2, great))...)
	r.checkLeading(2, 18, 3)
	r.give(propose(2, 1, 18, 1, nothing))
	r.give(propose(2, 1, 18, 0, small))
	r.pass(api.Prepare, 2, 0)
	r.campaign(0)
	r.come(api.Prepare, 0, 1, promise(1, 0, 24, vote(0, 18, small), vote(1, 18, nothing), vote(2, 8, great)))
}

func TestPromisesOfMajority(t *testing.T) {
	for _, n := range sizes {
		r := begin(t, n)
		r.campaign(0)
		for from := n - 1; from >= 0; from-- {
			r.come(api.Prepare, 0, from, promise(from, 0, 8))
			r.come(api.Promise, from, 0)
			if have := n - from; 2*have > n {
				r.checkLeading(0, 8, 0)
			} else {
				r.checkPreparing(0, 8)
			}
		}
	}
}

func TestPromiseToIdle(t *testing.T) {
	r := begin(t, 3)
	r.campaign(1)
	r.pass(api.Prepare, 1, 0, 1, 2)
	r.campaign(2)
	r.pass(api.Prepare, 2, 1)
	for from := range 3 {
		r.come(api.Promise, from, 1)
		r.checkIdle(1, 18)
	}
}

func TestPromiseOfAnotherCampaign(t *testing.T) {
	r := led(t, 3, 0)
	r.submit(0, hi)
	r.pass(api.Propose, 0, 0, 2)
	r.campaign(1)
	r.pass(api.Prepare, 1, 0, 1, 2)
	r.campaign(1)
	for from := range 3 {
		r.come(api.Promise, from, 1)
		r.checkPreparing(1, 25)
	}
	r.pass(api.Prepare, 1, 0, 1)
	r.come(api.Promise, 1, 1)
	r.checkPreparing(1, 25)
	r.come(api.Promise, 0, 1, proposals(3, 1, 25, 0, hi)...)
	r.checkLeading(1, 25, 1)
}

func TestPromiseToLeading(t *testing.T) {
	r := led(t, 3, 0)
	r.submit(0, hi)
	r.pass(api.Propose, 0, 0)
	r.campaign(1)
	r.pass(api.Prepare, 1, 0, 1, 2)
	r.pass(api.Promise, 1, 1)
	r.come(api.Promise, 2, 1)
	r.checkLeading(1, 17, 0)
	r.come(api.Promise, 0, 1) // it has a vote, but comes too late
	r.checkLeading(1, 17, 0)
}

// threeVotes is a room of 5 in which 2, 3 and 4 have accepted, for slot 0, great of 26, hi of 17 and small of 8; 0 and 1 nothing.
func threeVotes(t *testing.T) room {
	r := led(t, 5, 0)
	r.submit(0, small)
	r.give(propose(0, 4, 8, 0, small))
	r.leadWith(1, 1, 2, 3)
	r.submit(1, hi)
	r.give(propose(1, 3, 17, 0, hi))
	r.leadWith(2, 0, 1, 2)
	r.submit(2, great)
	r.give(propose(2, 2, 26, 0, great))
	return r
}

func TestGreatestBallotIsKept(t *testing.T) {
	accepted := []api.Post{2: great, 3: hi, 4: small}
	for code := range 5 * 5 * 5 {
		quorum := []int{code / 25, code / 5 % 5, code % 5}
		if quorum[0] == quorum[1] || quorum[0] == quorum[2] || quorum[1] == quorum[2] {
			continue
		}
		greatest := 5
		for _, member := range quorum {
			if member >= 2 {
				greatest = min(greatest, member)
			}
		}
		r := threeVotes(t)
		r.leadWith(0, quorum...)
		r.checkLeading(0, 32, 1)
		net := r.Net()
		if sent := net[len(net)-5:]; !slices.EqualFunc(sent, proposals(5, 0, 32, 0, accepted[greatest]), sameMessage) {
			t.Errorf("with promises of %v: %+v", quorum, sent)
		}
	}
}

// Each slot has its own greatest ballot.
func TestKeptBySlots(t *testing.T) {
	r := led(t, 3, 0)
	r.submit(0, small)
	r.submit(0, hi)
	r.give(propose(0, 1, 8, 0, small))
	r.give(propose(0, 1, 8, 1, hi))
	r.leadWith(2, 0, 2)
	r.submit(2, great)
	r.give(propose(2, 2, 18, 0, great))
	r.pass(api.Prepare, 2, 1)
	r.campaign(1)
	r.pass(api.Prepare, 1, 1, 2)
	r.come(api.Promise, 1, 1)
	r.come(api.Promise, 2, 1, slices.Concat(proposals(3, 1, 25, 0, great), proposals(3, 1, 25, 1, hi))...)
}

func TestNothingThatWasAcceptedIsKept(t *testing.T) {
	r := led(t, 3, 0)
	r.submit(0, small)
	r.submit(0, hi)
	r.give(propose(0, 1, 8, 1, hi))
	r.leadWith(2, 1, 2)
	r.give(propose(2, 2, 18, 0, nothing))
	r.pass(api.Prepare, 2, 0)
	r.campaign(0)
	r.pass(api.Prepare, 0, 0, 2)
	r.come(api.Promise, 0, 0)
	r.come(api.Promise, 2, 0, proposals(3, 0, 24, 0, nothing)...)
	r.checkLeading(0, 24, 1)
}

func TestLeadBehindLastSlot(t *testing.T) {
	r := led(t, 3, 0)
	r.fill(0)
	last := post(5, 16, 3, "x")
	r.give(propose(0, 1, 8, 15, last))
	r.leadWith(2, 1, 2)
	r.checkLeading(2, 18, 16)
	r.refusesSubmit(2, hi, api.ErrFull)
	var want []api.Message
	for slot := range 15 {
		want = append(want, proposals(3, 2, 18, slot, nothing)...)
	}
	want = append(want, proposals(3, 2, 18, 15, last)...)
	if net := r.Net(); !slices.EqualFunc(net[len(net)-48:], want, sameMessage) {
		t.Errorf("Net = %+v, want %+v at its end", net, want)
	}
}

// What is decided here is not proposed anew, whether it was kept or not.
func TestLeadLeavesOutWhatIsDecided(t *testing.T) {
	r := decidedBehindGap(t) // slot 1, at 0 and 2
	r.campaign(2)
	r.pass(api.Prepare, 2, 0, 1)
	r.come(api.Promise, 0, 2)
	r.come(api.Promise, 1, 2, proposals(3, 2, 18, 0, nothing)...)
	r.checkLeading(2, 18, 2)
	r.submit(2, great)
	r.settle()
	for replica := range 2 {
		r.checkLog(2*replica, nothing, hi, great)
	}
}

func TestProposeToIdle(t *testing.T) {
	r := begin(t, 3)
	r.leadWith(1, 1, 2)
	r.submit(1, hi)
	r.submit(1, small)
	r.come(api.Propose, 1, 0, accept(0, 1, 9, 0)) // it has promised nothing yet
	r.checkIdle(0, 9)
	r.come(api.Propose, 1, 0, accept(0, 1, 9, 1)) // it has promised this one
	r.checkIdle(0, 9)
	r.campaign(2)
	r.pass(api.Prepare, 2, 0)
	r.checkIdle(0, 18)
	r.submit(1, great)
	r.come(api.Propose, 1, 0, refuse(0, 1, 18)) // it has promised a greater one
	r.checkIdle(0, 18)
	r.campaign(2)
	r.come(api.Prepare, 2, 0, promise(0, 2, 26, vote(0, 9, hi), vote(1, 9, small)))
}

func TestProposeToPreparing(t *testing.T) {
	r := begin(t, 3)
	r.leadWith(1, 1, 2)
	r.submit(1, hi)
	r.campaign(2)
	r.come(api.Propose, 1, 2, refuse(2, 1, 18))
	r.checkPreparing(2, 18)
	r.campaign(0)
	r.checkPreparing(0, 8)
	r.come(api.Propose, 1, 0, accept(0, 1, 9, 0))
	r.checkIdle(0, 9)
}

func TestProposeToLeading(t *testing.T) {
	r := begin(t, 3)
	r.leadWith(1, 1, 2)
	r.submit(1, hi)
	r.come(api.Propose, 1, 1, accept(1, 1, 9, 0))
	r.checkLeading(1, 9, 1)
	r.leadWith(2, 0, 2)
	r.submit(2, small)
	r.come(api.Propose, 1, 2, refuse(2, 1, 18))
	r.checkLeading(2, 18, 1)
	r.come(api.Propose, 2, 1, accept(1, 2, 18, 0))
	r.checkIdle(1, 18)
}

// That a replica has heard of a greater ballot does not keep it from voting for one that it may.
func TestSeenIsNotPromised(t *testing.T) {
	r := refusedTwice(t)
	r.come(api.Refuse, 1, 0) // of 25
	r.pass(api.Prepare, 3, 3, 4)
	for from := 2; from <= 4; from++ {
		r.pass(api.Promise, from, 3)
	}
	r.submit(3, hi)
	r.come(api.Propose, 3, 0, accept(0, 3, 11, 0))
	r.checkIdle(0, 11)
	r.come(api.Prepare, 1, 0, refuse(0, 1, 11)) // of 9
	r.come(api.Prepare, 1, 0, promise(0, 1, 17, vote(0, 11, hi)))
	r.checkIdle(0, 17)
}

// A slot that is decided is voted for all the same.
func TestProposeForSlotThatIsDecided(t *testing.T) {
	r := led(t, 3, 0)
	r.submit(0, hi)
	r.pass(api.Propose, 0, 0, 1)
	r.pass(api.Accept, 0, 0)
	r.pass(api.Accept, 1, 0)
	r.come(api.Decide, 0, 2)
	r.checkLog(2, hi)
	r.come(api.Propose, 0, 2, accept(2, 0, 8, 0))
	r.campaign(1)
	r.come(api.Prepare, 1, 2, promise(2, 1, 17, vote(0, 8, hi)))
}

func TestAcceptsOfMajority(t *testing.T) {
	for _, n := range sizes {
		leader := n / 2
		r := led(t, n, leader)
		r.submit(leader, small)
		r.submit(leader, hi)
		for to := range n {
			r.give(propose(leader, to, 8+leader, 1, hi))
		}
		for have := 1; have <= n; have++ {
			var sent []api.Message
			if have == n/2+1 {
				sent = decisions(n, leader, 1, hi)
			}
			r.come(api.Accept, n-have, leader, sent...)
		}
		r.checkLog(leader)
		r.checkLeading(leader, 8+leader, 2)
		r.settle()
		for replica := range n {
			r.checkLog(replica, small, hi)
		}
	}
}

// decisions are those from one replica to all others.
func decisions(n, from, slot int, value api.Post) []api.Message {
	var all []api.Message
	for to := range n {
		if to != from {
			all = append(all, decide(from, to, slot, value))
		}
	}
	return all
}

// Votes for one slot are none for another.
func TestAcceptsBySlots(t *testing.T) {
	r := led(t, 3, 0)
	r.submit(0, small)
	r.submit(0, hi)
	for to := range 2 {
		r.give(propose(0, to, 8, to, []api.Post{small, hi}[to]))
	}
	r.come(api.Accept, 0, 0)
	r.come(api.Accept, 1, 0)
	r.give(propose(0, 2, 8, 1, hi))
	r.come(api.Accept, 2, 0, decisions(3, 0, 1, hi)...)
	r.checkLog(0)
}

func TestAcceptToIdle(t *testing.T) {
	r := led(t, 3, 0)
	r.submit(0, hi)
	r.pass(api.Propose, 0, 0, 1, 2)
	r.campaign(1)
	r.pass(api.Prepare, 1, 0)
	for from := range 3 {
		r.come(api.Accept, from, 0)
	}
	r.checkLog(0)
	r.checkIdle(0, 17)
}

func TestAcceptToPreparing(t *testing.T) {
	r := led(t, 3, 0)
	r.submit(0, hi)
	r.pass(api.Propose, 0, 0, 1, 2)
	r.campaign(0)
	for from := range 3 {
		r.come(api.Accept, from, 0)
	}
	r.checkLog(0)
	r.checkPreparing(0, 16)
}

func TestAcceptOfAnotherLead(t *testing.T) {
	r := led(t, 3, 0)
	r.submit(0, hi)
	r.pass(api.Propose, 0, 0, 1, 2)
	r.leadWith(0, 0, 1)
	r.checkLeading(0, 16, 1)
	for from := range 3 {
		r.come(api.Accept, from, 0)
	}
	r.checkLog(0)
	r.settle()
	r.checkLog(0, hi)
}

func TestAcceptForSlotThatIsDecided(t *testing.T) {
	r := led(t, 3, 0)
	r.submit(0, hi)
	r.pass(api.Propose, 0, 0, 1)
	r.leadWith(1, 1, 2)
	r.pass(api.Propose, 1, 1, 2)
	r.pass(api.Accept, 1, 1)
	r.pass(api.Accept, 2, 1)
	r.come(api.Decide, 1, 0)
	r.checkLeading(0, 8, 1)
	r.checkLog(0, hi)
	r.come(api.Accept, 0, 0)
	r.come(api.Accept, 1, 0)
	r.checkLeading(0, 8, 1)
}

// decisionUnderWay is a room in which hi is decided at 0, who leads 8, and Decides are on their way.
func decisionUnderWay(t *testing.T) room {
	r := led(t, 3, 0)
	r.submit(0, hi)
	r.settleBut(api.Decide)
	return r
}

// settleBut lets messages come until those of one kind alone are left.
func (r room) settleBut(kind int) {
	r.t.Helper()
	for k := 0; k < len(r.Net()); {
		if r.Net()[k].Kind == kind {
			k++
		} else {
			r.deliver(k)
		}
	}
}

func TestDecideToEachRole(t *testing.T) {
	r := decisionUnderWay(t)
	r.checkLog(2)
	r.come(api.Decide, 0, 2)
	r.checkLog(2, hi)
	r.checkIdle(2, 8)

	r = decisionUnderWay(t)
	r.campaign(2)
	r.come(api.Decide, 0, 2)
	r.checkLog(2, hi)
	r.checkPreparing(2, 18)

	r = decisionUnderWay(t)
	r.leadWith(2, 1, 2)
	r.checkLeading(2, 18, 1)
	r.come(api.Decide, 0, 2)
	r.checkLog(2, hi)
	r.checkLeading(2, 18, 1)
	r.refusesSubmit(2, hi, api.ErrAgain)
}

func TestRefuseToIdle(t *testing.T) {
	r := refusedTwice(t)
	r.come(api.Refuse, 2, 0)
	r.checkIdle(0, 8)
	r.come(api.Refuse, 1, 0)
	r.checkIdle(0, 8)
	r.campaign(0)
	r.checkPreparing(0, 32)
}

func TestRefuseToPreparing(t *testing.T) {
	r := refusedTwice(t)
	r.come(api.Refuse, 2, 0)
	r.campaign(0)
	r.checkPreparing(0, 16)
	r.come(api.Refuse, 1, 0) // of 25, which is greater
	r.checkIdle(0, 16)

	r = refusedTwice(t)
	r.come(api.Refuse, 1, 0)
	r.campaign(0)
	r.come(api.Refuse, 2, 0) // of 11, which is less
	r.checkPreparing(0, 32)
}

func TestRefuseToLeading(t *testing.T) {
	r := begin(t, 3)
	r.campaign(1)
	r.campaign(0)
	r.pass(api.Prepare, 0, 0, 1, 2)
	r.pass(api.Promise, 0, 0)
	r.pass(api.Promise, 2, 0)
	r.checkLeading(0, 8, 0)
	r.come(api.Refuse, 1, 0) // of 9, which is greater
	r.checkIdle(0, 8)
	r.campaign(0)
	r.checkPreparing(0, 16)
}

func TestRefuseToOneThatLeadsGreater(t *testing.T) {
	r := begin(t, 3)
	r.campaign(1)
	r.campaign(0)
	r.pass(api.Prepare, 0, 1)
	r.leadWith(0, 0, 2)
	r.checkLeading(0, 16, 0)
	r.come(api.Refuse, 1, 0) // of 9, which is less
	r.checkLeading(0, 16, 0)
	r.campaign(0)
	r.checkPreparing(0, 24)
}

func TestFullNetLosesDecides(t *testing.T) {
	r := led(t, 5, 0)
	r.submit(0, hi)
	r.pass(api.Propose, 0, 0, 1, 2)
	r.pass(api.Accept, 0, 0)
	r.pass(api.Accept, 1, 0)
	r.crowd(4)
	if len(r.Net()) != 198 {
		t.Fatalf("%d messages", len(r.Net()))
	}
	r.come(api.Accept, 2, 0, decide(0, 1, 0, hi), decide(0, 2, 0, hi), decide(0, 3, 0, hi))
	r.checkLog(0, hi)
	if len(r.Net()) != 200 {
		t.Fatalf("%d messages", len(r.Net()))
	}
	r.come(api.Prepare, 4, 0, promise(0, 4, 20, vote(0, 8, hi))) // one came, so there is room for one
}

func TestFullNetLosesProposals(t *testing.T) {
	r := led(t, 3, 0)
	r.submit(0, small)
	r.submit(0, hi)
	r.give(propose(0, 1, 8, 0, small))
	r.give(propose(0, 1, 8, 1, hi))
	r.campaign(2)
	r.pass(api.Prepare, 2, 1, 2)
	r.pass(api.Promise, 2, 2)
	r.crowd(0)
	if len(r.Net()) != 200 {
		t.Fatalf("%d messages", len(r.Net()))
	}
	r.come(api.Promise, 1, 2, propose(2, 0, 18, 0, small))
	r.checkLeading(2, 18, 2)
	r.refusesSubmit(2, hi, api.ErrAgain)
	r.refusesSubmit(2, great, api.ErrNet)
}
