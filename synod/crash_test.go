package synod_test

import (
	"testing"

	"synod/api"
)

func TestCrashOfNoReplica(t *testing.T) {
	for _, n := range sizes {
		r := led(t, n, 0)
		r.submit(0, hi)
		r.campaign(n - 1)
		for _, replica := range noReplicas(n) {
			r.refusesCrash(replica)
		}
	}
}

// A crash leaves the net, the logs and all others as they are.
func TestCrashMakesOneIdle(t *testing.T) {
	for _, n := range sizes {
		for replica := range n {
			r := led(t, n, 0)
			r.submit(0, hi)
			r.settle()
			r.submit(0, small)
			r.campaign(n - 1)
			for range 2 { // the second time nothing is left to forget
				want := r.view()
				want.roles[replica] = api.Role{Promised: want.roles[replica].Promised}
				r.crash(replica)
				if after := r.view(); !sameView(want, after) {
					t.Fatalf("of %d, Crash(%d): %+v, want %+v", n, replica, after, want)
				}
			}
		}
	}
}

func TestCrashOfIdle(t *testing.T) {
	r := begin(t, 3)
	r.crash(0)
	r.checkIdle(0, 0)
	r.campaign(1)
	r.pass(api.Prepare, 1, 0)
	r.crash(0)
	r.checkIdle(0, 9)
	r.campaign(0)
	r.checkPreparing(0, 16)
}

func TestCrashOfPreparing(t *testing.T) {
	r := begin(t, 3)
	r.campaign(0)
	r.crash(0)
	r.checkIdle(0, 8)
	r.refusesSubmit(0, hi, api.ErrLeader)
	r.campaign(0)
	r.checkPreparing(0, 16)
}

func TestCrashOfLeading(t *testing.T) {
	r := led(t, 3, 1)
	r.submit(1, hi)
	r.crash(1)
	r.checkIdle(1, 9)
	r.refusesSubmit(1, hi, api.ErrLeader)
	r.refusesSubmit(1, small, api.ErrLeader)
	r.campaign(1)
	r.checkPreparing(1, 17)
}

func TestCrashOfAll(t *testing.T) {
	for _, n := range sizes {
		r := led(t, n, 0)
		r.submit(0, small)
		r.settle()
		for replica := range n {
			r.crash(replica)
			r.checkIdle(replica, 8)
			r.checkLog(replica, small)
		}
		r.campaign(n - 1)
		r.settle()
		r.checkLeading(n-1, 16+n-1, 1)
		r.submit(n-1, hi)
		r.settle()
		for replica := range n {
			r.checkLog(replica, small, hi)
		}
	}
}

func TestCrashNeedsNoRoom(t *testing.T) {
	r := led(t, 1, 0)
	r.submit(0, hi)
	r.swell(api.MaxNet)
	r.crash(0)
	r.checkIdle(0, 8)
	r.refusesCrash(1)
}

func TestCrashKeepsPromised(t *testing.T) {
	r := begin(t, 3)
	r.leadWith(0, 0, 2)
	r.submit(0, hi)
	r.campaign(1)
	r.campaign(2)
	r.pass(api.Prepare, 2, 0)
	for replica := range 3 {
		r.crash(replica)
	}
	r.checkIdle(0, 18)
	r.checkIdle(1, 9)
	r.checkIdle(2, 18)
	r.come(api.Prepare, 1, 0, refuse(0, 1, 18)) // what others promised
	r.come(api.Prepare, 0, 1, refuse(1, 0, 9))  // what it campaigned with itself
	r.come(api.Propose, 0, 2, refuse(2, 0, 18))
	r.come(api.Prepare, 1, 1, promise(1, 1, 9)) // the same ballot is not refused
}

func TestCrashKeepsAccepted(t *testing.T) {
	r := led(t, 3, 0)
	r.submit(0, small)
	r.submit(0, hi)
	r.submit(0, great)
	r.give(propose(0, 1, 8, 2, great))
	r.give(propose(0, 1, 8, 0, small))
	r.give(propose(0, 0, 8, 1, hi)) // the leader's own vote
	r.loseAll()
	r.crash(0)
	r.crash(1)
	r.campaign(2)
	r.come(api.Prepare, 2, 1, promise(1, 2, 18, vote(0, 8, small), vote(2, 8, great)))
	r.come(api.Prepare, 2, 0, promise(0, 2, 18, vote(1, 8, hi)))
	r.settle()
	r.checkLeading(2, 18, 3)
	for replica := range 3 {
		r.checkLog(replica, small, hi, great)
	}
}

func TestCrashKeepsDecided(t *testing.T) {
	r := decisionUnderWay(t)
	r.pass(api.Decide, 0, 1)
	for replica := range 3 {
		r.crash(replica)
	}
	r.checkLog(0, hi)
	r.checkLog(1, hi)
	r.checkLog(2)
	r.checkChat(1, hi.Channel, hi)
	r.leadWith(1, 1, 2)
	r.checkLeading(1, 17, 1)
	r.refusesSubmit(1, hi, api.ErrAgain)
}

func TestCrashKeepsDecidedBehindGap(t *testing.T) {
	r := decidedBehindGap(t) // slot 1, at 0 and 2
	r.loseAll()
	r.crash(2)
	r.campaign(2)
	r.pass(api.Prepare, 2, 1, 2)
	r.pass(api.Promise, 2, 2)
	r.come(api.Promise, 1, 2, proposals(3, 2, 18, 0, nothing)...)
	r.checkLeading(2, 18, 2)
	r.settle()
	r.checkLog(2, nothing, hi)
}

func TestCrashForgetsSeen(t *testing.T) {
	r := refusedTwice(t)
	r.come(api.Refuse, 1, 0) // of 25
	r.crash(0)
	r.checkIdle(0, 8)
	r.campaign(0)
	r.checkPreparing(0, 16)

	r = refusedTwice(t)
	r.come(api.Refuse, 1, 0) // of 25
	r.crash(0)
	r.come(api.Refuse, 2, 0) // of 11, of which it hears behind the crash
	r.campaign(0)
	r.checkPreparing(0, 16)

	r = refusedTwice(t)
	r.come(api.Refuse, 2, 0) // of 11
	r.crash(0)
	r.come(api.Refuse, 1, 0) // of 25, of which it hears behind the crash
	r.campaign(0)
	r.checkPreparing(0, 32)
}

func TestCrashForgetsSeenOfOneAlone(t *testing.T) {
	r := refusedTwice(t)
	r.come(api.Refuse, 1, 0) // of 25
	for replica := 1; replica < 5; replica++ {
		r.crash(replica)
	}
	r.campaign(0)
	r.checkPreparing(0, 32)
}

// A round that was heard of alone does not stand in the way behind a crash; one that was promised does.
func TestCrashAtLastRound(t *testing.T) {
	r := begin(t, 3)
	for range api.MaxRound {
		r.campaign(2)
		r.loseAll()
	}
	r.checkPreparing(2, 8002)
	r.campaign(0)
	r.pass(api.Prepare, 0, 2)
	r.come(api.Refuse, 2, 0)
	r.refusesCampaign(0, api.ErrRound)
	r.crash(0)
	r.campaign(0)
	r.checkPreparing(0, 16)
	r.crash(2)
	r.checkIdle(2, 8002)
	r.refusesCampaign(2, api.ErrRound)
}

func TestPromisesOfTheTimeAheadOfCrash(t *testing.T) {
	r := begin(t, 3)
	r.campaign(0)
	r.pass(api.Prepare, 0, 0, 1, 2)
	r.crash(0)
	for from := range 3 {
		r.double(r.find(api.Promise, from, 0))
		r.come(api.Promise, from, 0)
		r.checkIdle(0, 8)
	}
	r.campaign(0)
	for from := range 3 {
		r.come(api.Promise, from, 0) // they are of another ballot
		r.checkPreparing(0, 16)
	}
	r.settle()
	r.checkLeading(0, 16, 0)
}

// A Prepare of the time ahead of the crash is promised, but that is of no use to it.
func TestPreparesOfTheTimeAheadOfCrash(t *testing.T) {
	r := begin(t, 3)
	r.campaign(0)
	r.crash(0)
	r.come(api.Prepare, 0, 0, promise(0, 0, 8))
	r.come(api.Prepare, 0, 1, promise(1, 0, 8))
	r.settle()
	for replica := range 3 {
		r.checkIdle(replica, 8)
	}
}

func TestCampaignBehindCrashBeginsAnew(t *testing.T) {
	r := led(t, 3, 0)
	r.submit(0, hi)
	r.give(propose(0, 2, 8, 0, hi))
	r.loseAll()
	r.campaign(1)
	r.pass(api.Prepare, 1, 2)
	r.come(api.Promise, 2, 1) // it keeps what 2 has accepted
	r.crash(1)
	r.loseAll()
	r.campaign(1)
	r.checkPreparing(1, 25)
	r.pass(api.Prepare, 1, 0, 1)
	r.come(api.Promise, 0, 1) // 2 has not promised this one
	r.checkPreparing(1, 25)
	r.come(api.Promise, 1, 1)
	r.checkLeading(1, 25, 0)
}

func TestAcceptsOfTheTimeAheadOfCrash(t *testing.T) {
	r := led(t, 3, 0)
	r.submit(0, hi)
	r.pass(api.Propose, 0, 0, 1, 2)
	for from := range 3 {
		r.double(r.find(api.Accept, from, 0))
		r.double(r.find(api.Accept, from, 0))
	}
	r.crash(0)
	for from := range 3 {
		r.come(api.Accept, from, 0)
	}
	r.checkIdle(0, 8)
	r.checkLog(0)
	r.campaign(0)
	for from := range 3 {
		r.come(api.Accept, from, 0)
	}
	r.checkPreparing(0, 16)
	r.settleBut(api.Accept)
	r.checkLeading(0, 16, 1)
	for from := range 3 {
		r.give(accept(from, 0, 8, 0))
	}
	r.checkLog(0)
	r.settle()
	for replica := range 3 {
		r.checkLog(replica, hi)
	}
}

// Votes of the time ahead of the crash do not count with those behind it.
func TestLeadBehindCrashBeginsAnew(t *testing.T) {
	r := led(t, 3, 0)
	r.submit(0, small)
	r.submit(0, hi)
	r.give(propose(0, 1, 8, 0, small))
	r.come(api.Accept, 1, 0)
	r.loseAll()
	r.crash(0)
	r.leadWith(0, 0, 2)
	r.checkLeading(0, 16, 0)
	r.submit(0, hi) // it was proposed in a lead that is over
	r.checkLeading(0, 16, 1)
	r.pass(api.Propose, 0, 2)
	r.come(api.Accept, 2, 0) // the first vote for slot 0
	r.checkLog(0)
	r.settle()
	for replica := range 3 {
		r.checkLog(replica, hi)
	}
}

func TestProposalsOfTheTimeAheadOfCrash(t *testing.T) {
	r := led(t, 3, 0)
	r.submit(0, hi)
	r.crash(0)
	for to := range 3 {
		r.come(api.Propose, 0, to, accept(to, 0, 8, 0))
	}
	r.settle()
	for replica := range 3 {
		r.checkLog(replica)
	}
	r.campaign(0)
	r.settle()
	for replica := range 3 {
		r.checkLog(replica, hi)
	}
}

func TestDecideComesToOneThatCrashed(t *testing.T) {
	r := decisionUnderWay(t)
	r.crash(2)
	r.come(api.Decide, 0, 2)
	r.checkLog(2, hi)
	r.checkIdle(2, 8)
}
