package synod_test

import (
	"math"
	"slices"
	"testing"

	"synod/api"
)

// sixPrepares is a room with the Prepares of two campaigns, in order.
func sixPrepares(t *testing.T) room {
	r := begin(t, 3)
	r.campaign(1)
	r.campaign(2)
	return r
}

// checkOthersStay: but for the net all is as it was.
func (r room) checkOthersStay(before view, net ...api.Message) {
	r.t.Helper()
	before.net = net
	if after := r.view(); !sameView(before, after) {
		r.t.Fatalf("%+v, want %+v", after, before)
	}
}

func TestLoseAndDoubleOfNoMessage(t *testing.T) {
	r := begin(t, 3)
	for _, k := range []int{-1, 0, 1, 200, math.MaxInt, math.MinInt} {
		r.refusesLose(k)
		r.refusesDouble(k, api.ErrArg)
	}
	r.campaign(1)
	for _, k := range []int{-1, -3, 3, 4, 199, 200, 1 << 32, math.MaxInt, math.MinInt} {
		r.refusesLose(k)
		r.refusesDouble(k, api.ErrArg)
	}
}

func TestLoseTakesOutOneMessage(t *testing.T) {
	for k := range 6 {
		r := sixPrepares(t)
		before := r.view()
		r.lose(k)
		r.checkOthersStay(before, slices.Delete(copyNet(before.net), k, k+1)...)
		r.refusesLose(5) // it is past the end now
	}
}

func TestLoseDownToEmptyNet(t *testing.T) {
	r := sixPrepares(t)
	for _, k := range []int{5, 0, 1, 2, 0, 0} {
		r.lose(k)
	}
	r.checkNet()
	r.refusesLose(0)
	r.campaign(0)
	r.checkNet(prepares(3, 0, 8)...)
}

func TestWhatIsLostDoesNotCome(t *testing.T) {
	r := begin(t, 3)
	r.campaign(1)
	r.lose(0)
	r.settle()
	r.checkIdle(0, 0)
	r.checkLeading(1, 9, 0)
	r.submit(1, hi)
	r.lose(2) // to 2
	r.settleBut(api.Decide)
	r.lose(r.find(api.Decide, 1, 0))
	r.settle()
	r.checkLog(0)
	r.checkLog(1, hi)
	r.checkLog(2, hi)
	r.campaign(2)
	r.come(api.Prepare, 2, 2, promise(2, 2, 18)) // it has decided, but not accepted
	r.come(api.Prepare, 2, 0, promise(0, 2, 18, vote(0, 9, hi)))
}

func TestDoubleStandsBehindAllOthers(t *testing.T) {
	for k := range 6 {
		r := sixPrepares(t)
		before := r.view()
		r.double(k)
		want := append(copyNet(before.net), before.net[k])
		r.checkOthersStay(before, want...)
		r.double(6) // what was doubled is doubled like any other
		r.checkOthersStay(before, append(want, before.net[k])...)
		r.lose(k)
		r.checkOthersStay(before, append(slices.Delete(copyNet(want), k, k+1), before.net[k])...)
	}
}

func TestDoubleOfEachKind(t *testing.T) {
	r := refusedTwice(t)
	r.pass(api.Prepare, 1, 4)
	r.leadWith(4, 2, 3, 4)
	r.submit(4, hi)
	r.pass(api.Propose, 4, 0, 2, 3, 4)
	r.pass(api.Accept, 2, 4)
	r.pass(api.Accept, 3, 4)
	r.pass(api.Accept, 4, 4)
	for kind := api.Prepare; kind <= api.Refuse; kind++ {
		net := r.Net()
		k := slices.IndexFunc(net, func(m api.Message) bool { return m.Kind == kind })
		r.double(k)
		r.checkNet(append(net, net[k])...)
	}
}

func TestDoubleInFullNet(t *testing.T) {
	for _, n := range sizes {
		r := begin(t, n)
		r.campaign(0)
		r.swell(api.MaxNet)
		for _, k := range []int{0, 1, 100, 198, 199} {
			r.refusesDouble(k, api.ErrNet)
		}
		for _, k := range []int{-1, 200, 201, math.MaxInt, math.MinInt} {
			r.refusesDouble(k, api.ErrArg)
			r.refusesLose(k)
		}
		r.lose(199)
		r.double(198)
		r.refusesDouble(198, api.ErrNet)
		r.deliver(0) // what it sends has just room
		r.refusesDouble(0, api.ErrNet)
	}
}

func TestCampaignAndSubmitBesideDoubled(t *testing.T) {
	r := led(t, 3, 0)
	r.submit(0, small)
	r.swell(198)
	r.refusesCampaign(1, api.ErrNet)
	r.refusesSubmit(0, hi, api.ErrNet)
	r.lose(0)
	r.submit(0, hi)
	r.refusesDouble(199, api.ErrNet)
	r.lose(0)
	r.lose(0)
	r.refusesCampaign(1, api.ErrNet)
	r.lose(0)
	r.campaign(1)
	r.refusesDouble(0, api.ErrNet)
}

// What a message sends to a full net is lost, but for the room that it leaves itself.
func TestSentToFullNet(t *testing.T) {
	r := led(t, 7, 0)
	r.submit(0, hi)
	for to := range 4 {
		r.pass(api.Propose, 0, to)
	}
	for from := 1; from < 4; from++ {
		r.pass(api.Accept, from, 0)
	}
	r.swell(api.MaxNet) // with Proposes to 4
	r.come(api.Accept, 0, 0, decide(0, 1, 0, hi))
	r.checkLog(0, hi)
	r.checkLeading(0, 8, 1)
	r.settle()
	r.checkLog(1, hi)
	for replica := 2; replica < 7; replica++ {
		r.checkLog(replica)
	}
}

func TestDoubledPrepare(t *testing.T) {
	r := begin(t, 3)
	r.campaign(1)
	for to := range 3 {
		r.double(to)
		r.double(to)
	}
	for to := range 3 {
		r.come(api.Prepare, 1, to, promise(to, 1, 9))
		r.come(api.Prepare, 1, to, promise(to, 1, 9))
	}
	r.checkPreparing(1, 9)
	r.checkIdle(0, 9)
	r.pass(api.Promise, 0, 1)
	r.pass(api.Promise, 2, 1)
	r.come(api.Prepare, 1, 1, promise(1, 1, 9))
	r.checkLeading(1, 9, 0)
	r.campaign(2)
	r.give(prepare(2, 0, 18))
	r.come(api.Prepare, 1, 0, refuse(0, 1, 18))
	r.checkIdle(0, 18)
}

// One who promised twice has promised once, whatever comes between.
func TestDoubledPromiseCountsOnce(t *testing.T) {
	r := begin(t, 3)
	r.campaign(0)
	r.pass(api.Prepare, 0, 1)
	for range 3 {
		r.double(r.find(api.Promise, 1, 0))
	}
	r.come(api.Promise, 1, 0)
	r.come(api.Promise, 1, 0) // at once
	r.checkPreparing(0, 8)
	r.pass(api.Prepare, 0, 0, 2)
	r.come(api.Promise, 1, 0) // with other messages between
	r.checkPreparing(0, 8)
	r.come(api.Promise, 2, 0)
	r.checkLeading(0, 8, 0)
	r.come(api.Promise, 1, 0) // behind the lead's begin
	r.checkLeading(0, 8, 0)
}

func TestDoubledPromisesOfFive(t *testing.T) {
	r := begin(t, 5)
	r.campaign(2)
	r.pass(api.Prepare, 2, 0, 1, 2, 3, 4)
	for from := range 5 {
		for range 3 {
			r.double(r.find(api.Promise, from, 2))
		}
	}
	for _, from := range []int{4, 0, 4, 0, 0, 4} {
		r.come(api.Promise, from, 2)
		r.checkPreparing(2, 10)
	}
	r.come(api.Promise, 2, 2)
	r.checkLeading(2, 10, 0)
	r.settle()
	r.checkLeading(2, 10, 0)
}

// What a doubled Promise has is kept once, and proposed once.
func TestDoubledPromiseWithVotes(t *testing.T) {
	r := led(t, 3, 0)
	r.submit(0, small)
	r.submit(0, hi)
	r.give(propose(0, 1, 8, 1, hi))
	r.loseAll()
	r.campaign(2)
	r.pass(api.Prepare, 2, 1, 2)
	for from := 1; from < 3; from++ {
		r.double(r.find(api.Promise, from, 2))
	}
	r.come(api.Promise, 1, 2)
	r.come(api.Promise, 1, 2)
	r.come(api.Promise, 2, 2, slices.Concat(proposals(3, 2, 18, 0, nothing), proposals(3, 2, 18, 1, hi))...)
	r.come(api.Promise, 2, 2)
	r.checkLeading(2, 18, 2)
}

func TestDoubledPropose(t *testing.T) {
	r := led(t, 3, 0)
	r.submit(0, small)
	for range 3 {
		r.double(r.find(api.Propose, 0, 1))
	}
	r.come(api.Propose, 0, 1, accept(1, 0, 8, 0))
	r.come(api.Propose, 0, 1, accept(1, 0, 8, 0))
	r.checkIdle(1, 8)
	r.leadWith(2, 0, 2)
	r.submit(2, hi)
	r.come(api.Propose, 2, 1, accept(1, 2, 18, 0))
	r.come(api.Propose, 0, 1, refuse(1, 0, 18)) // it is late, and does not undo what came behind it
	r.campaign(2)
	r.give(prepare(2, 1, 26))
	r.give(promise(1, 2, 26, vote(0, 18, hi)))
}

// One who voted twice has voted once, whatever comes between.
func TestDoubledAcceptCountsOnce(t *testing.T) {
	r := led(t, 3, 0)
	r.submit(0, small)
	r.submit(0, hi)
	r.give(propose(0, 1, 8, 0, small))
	for range 4 {
		r.double(r.find(api.Accept, 1, 0))
	}
	r.come(api.Accept, 1, 0)
	r.come(api.Accept, 1, 0) // at once
	r.checkLog(0)
	r.give(propose(0, 2, 8, 1, hi))
	r.give(accept(2, 0, 8, 1))
	r.give(accept(1, 0, 8, 0)) // with other messages between
	r.checkLog(0)
	r.give(propose(0, 2, 8, 0, small))
	r.come(api.Accept, 2, 0, decisions(3, 0, 0, small)...)
	r.checkLog(0, small)
	r.come(api.Accept, 1, 0) // it is decided
	r.give(propose(0, 1, 8, 1, hi))
	r.give(accept(1, 0, 8, 0))
	r.checkLog(0, small)
	r.come(api.Accept, 1, 0, decisions(3, 0, 1, hi)...) // who voted for one slot may vote for another
	r.checkLog(0, small, hi)
}

func TestDoubledAcceptsOfFive(t *testing.T) {
	r := led(t, 5, 1)
	r.submit(1, hi)
	r.pass(api.Propose, 1, 0, 1, 2, 3, 4)
	for from := range 5 {
		for range 3 {
			r.double(r.find(api.Accept, from, 1))
		}
	}
	for _, from := range []int{3, 1, 3, 3, 1, 1} {
		r.come(api.Accept, from, 1)
		r.checkLog(1)
	}
	r.come(api.Accept, 4, 1, decisions(5, 1, 0, hi)...)
	for _, from := range []int{4, 3, 1, 0, 0, 2} {
		r.come(api.Accept, from, 1)
	}
	r.checkLog(1, hi)
}

func TestDoubledDecide(t *testing.T) {
	r := decisionUnderWay(t)
	r.double(r.find(api.Decide, 0, 2))
	r.come(api.Decide, 0, 2)
	r.come(api.Decide, 0, 2)
	r.checkLog(2, hi)
	r.checkChat(2, hi.Channel, hi)
	r.checkIdle(2, 8)
}

func TestDoubledRefuse(t *testing.T) {
	r := refusedTwice(t)
	for range 3 {
		r.double(r.find(api.Refuse, 1, 0)) // of 25
	}
	r.come(api.Refuse, 1, 0)
	r.come(api.Refuse, 1, 0)
	r.checkIdle(0, 8)
	r.campaign(0)
	r.come(api.Refuse, 1, 0)
	r.checkPreparing(0, 32)
	r.leadWith(0, 0, 3, 4)
	r.come(api.Refuse, 1, 0)
	r.checkLeading(0, 40, 0)
}
