package synod_test

import (
	"math"
	"slices"
	"testing"

	"synod/api"
	"synod/synod"
)

func TestNew(t *testing.T) {
	for _, n := range []int{-1, 0, 1, 2, 3, 4, 5, 6, 7, 8, 9, 11, -3, -7, 1 << 32, 1<<32 + 1, math.MaxInt, math.MinInt} {
		if slices.Contains(sizes, n) {
			checkNew(begin(t, n))
		} else if s, e := synod.New(n); s != nil || e != api.ErrArg {
			t.Errorf("New(%d) = %v, %d, want ErrArg", n, s, e)
		}
	}
}

func checkNew(r room) {
	r.t.Helper()
	r.checkNet()
	for replica := range r.n {
		r.checkIdle(replica, 0)
		r.checkLog(replica)
	}
	for _, replica := range noReplicas(r.n) {
		if _, e := r.Role(replica); e != api.ErrArg {
			r.t.Errorf("New(%d): Role(%d): %d, want ErrArg", r.n, replica, e)
		}
	}
}

func TestCampaignOfNoReplica(t *testing.T) {
	for _, n := range sizes {
		r := begin(t, n)
		for _, replica := range noReplicas(n) {
			r.refusesCampaign(replica, api.ErrArg)
		}
	}
}

func TestFirstCampaign(t *testing.T) {
	for _, n := range sizes {
		for replica := range n {
			r := begin(t, n)
			r.campaign(replica)
			r.checkNet(prepares(n, replica, 8+replica)...)
			for other := range n {
				if other != replica {
					r.checkIdle(other, 0)
				}
			}
			r.checkPreparing(replica, 8+replica)
		}
	}
}

func prepares(n, from, ballot int) []api.Message {
	var all []api.Message
	for to := range n {
		all = append(all, prepare(from, to, ballot))
	}
	return all
}

func TestLaterCampaigns(t *testing.T) {
	for _, n := range sizes {
		r := begin(t, n)
		var all []api.Message
		for round := 1; round <= 5; round++ {
			r.campaign(n - 1)
			all = append(all, prepares(n, n-1, 8*round+n-1)...)
			r.checkNet(all...)
			r.checkPreparing(n-1, 8*round+n-1)
		}
	}
}

func TestCampaignOfOneThatLeads(t *testing.T) {
	r := led(t, 3, 1)
	r.submit(1, small)
	r.settle()
	r.checkLeading(1, 9, 1)
	r.campaign(1)
	r.checkPreparing(1, 17)
	r.checkNet(prepares(3, 1, 17)...)
	r.refusesSubmit(1, hi, api.ErrLeader)
}

func TestCampaignBeginsWithoutPromises(t *testing.T) {
	r := begin(t, 3)
	r.campaign(1)
	r.pass(api.Prepare, 1, 0)
	r.pass(api.Promise, 0, 1)
	r.campaign(1)
	r.pass(api.Prepare, 1, 2) // of the first campaign
	r.come(api.Promise, 2, 1)
	r.checkPreparing(1, 17)
	r.pass(api.Prepare, 1, 1) // of the first campaign
	r.checkPreparing(1, 17)
	r.pass(api.Prepare, 1, 2)
	r.come(api.Promise, 2, 1)
	r.checkPreparing(1, 17)
}

func TestCampaignBeginsWithNothingKept(t *testing.T) {
	r := led(t, 3, 0)
	r.submit(0, hi)
	r.pass(api.Propose, 0, 0)
	r.campaign(1)
	r.pass(api.Prepare, 1, 0)
	r.come(api.Promise, 0, 1) // it keeps what 0 has accepted
	r.campaign(1)
	r.pass(api.Prepare, 1, 1, 2) // of the campaign ahead
	r.pass(api.Prepare, 1, 1, 2)
	r.pass(api.Promise, 1, 1)
	r.pass(api.Promise, 2, 1) // of the campaign ahead
	r.come(api.Promise, 2, 1)
	r.checkLeading(1, 25, 0)
}

func TestCampaignAboveWhatWasPromised(t *testing.T) {
	r := begin(t, 3)
	for range 4 {
		r.campaign(2)
	}
	r.deliver(9) // the last Prepare to 0: Ballot 34
	r.checkIdle(0, 34)
	r.campaign(0)
	r.checkPreparing(0, 40)
}

// refusedTwice is a room in which 0 prepared 8, and Refuses of 25 from 1 and of 11 from 2 are on their way to it.
func refusedTwice(t *testing.T) room {
	r := begin(t, 5)
	r.campaign(3)
	r.pass(api.Prepare, 3, 2)
	for range 3 {
		r.campaign(1)
	}
	r.campaign(0)
	r.pass(api.Prepare, 0, 1, 2)
	r.checkPreparing(0, 8)
	return r
}

func TestCampaignAboveWhatWasRefused(t *testing.T) {
	for _, c := range []struct {
		first, second       int
		firstIs, afterwards int
	}{
		{1, 2, 32, 32},
		{2, 1, 16, 32},
	} {
		r := refusedTwice(t)
		r.come(api.Refuse, c.first, 0)
		r.checkIdle(0, 8)
		r.come(api.Refuse, c.second, 0)
		r.checkIdle(0, 8)
		r.campaign(0)
		r.checkPreparing(0, c.afterwards)

		r = refusedTwice(t)
		r.come(api.Refuse, c.first, 0)
		r.campaign(0)
		r.checkPreparing(0, c.firstIs)
	}
}

func TestCampaignAbovePromisedThatIsAboveRefused(t *testing.T) {
	r := refusedTwice(t)
	r.come(api.Refuse, 2, 0) // of 11
	for range 2 {
		r.pass(api.Prepare, 1, 0) // of 9, 17
	}
	r.checkIdle(0, 17)
	r.campaign(0)
	r.checkPreparing(0, 24)
}

// lastRounds is a room of 3 in which 2 has come to the last round, and 0 has heard of a lesser one alone.
func lastRounds(t *testing.T) room {
	r := begin(t, 3)
	for range api.MaxRound - 1 {
		r.campaign(2)
		r.settle()
	}
	r.checkLeading(2, 7994, 0)
	r.campaign(2)
	r.checkPreparing(2, 8002)
	r.pass(api.Prepare, 2, 1)
	return r
}

func TestNoRoundLeft(t *testing.T) {
	r := lastRounds(t)
	r.refusesCampaign(2, api.ErrRound)
	r.refusesCampaign(1, api.ErrRound)
	r.campaign(0) // the last round is open to it
	r.checkPreparing(0, 8000)
	r.refusesCampaign(0, api.ErrRound)
	r.settle()
	r.checkLeading(2, 8002, 0)
	for replica := range 3 {
		r.refusesCampaign(replica, api.ErrRound)
	}
	r.refusesCampaign(3, api.ErrArg)
}

func TestNoRoundLeftBehindWhatWasRefused(t *testing.T) {
	r := lastRounds(t)
	r.checkIdle(0, 7994)
	r.campaign(0)
	r.pass(api.Prepare, 0, 1)
	r.come(api.Refuse, 1, 0)
	r.checkIdle(0, 8000)
	r.refusesCampaign(0, api.ErrRound)
}

func TestCampaignWithoutRoom(t *testing.T) {
	for _, c := range []struct{ n, fill int }{{1, 200}, {3, 66}, {5, 40}, {7, 28}} {
		r := begin(t, c.n)
		for range c.fill {
			r.campaign(0)
		}
		for replica := range c.n {
			r.refusesCampaign(replica, api.ErrNet)
		}
		r.refusesCampaign(c.n, api.ErrArg)
		r.refusesCampaign(-1, api.ErrArg)
		if len(r.Net()) != c.n*c.fill {
			t.Errorf("%d messages of %d campaigns of %d", len(r.Net()), c.fill, c.n)
		}
	}
}

// filled is a room of 3 with so many messages, none of which has come to 2.
func filled(t *testing.T, messages int) room {
	r := begin(t, 3)
	for len(r.Net()) < 198 {
		r.campaign(0)
	}
	for len(r.Net()) > messages {
		r.pass(api.Prepare, 0, 0)
		r.deliver(len(r.Net()) - 1) // a Promise or a Refuse, that is late
	}
	return r
}

func TestCampaignWithJustEnoughRoom(t *testing.T) {
	for messages := 194; messages <= 197; messages++ {
		r := filled(t, messages)
		if len(r.Net()) != messages {
			t.Fatalf("%d messages, want %d", len(r.Net()), messages)
		}
		r.campaign(2)
		r.checkPreparing(2, 10)
		if len(r.Net()) != messages+3 {
			t.Errorf("%d messages behind a campaign with %d", len(r.Net()), messages)
		}
	}
	filled(t, 198).refusesCampaign(2, api.ErrNet)
}

func TestNoRoundAheadOfNoRoom(t *testing.T) {
	r := begin(t, 7)
	for round := range api.MaxRound {
		r.campaign(6)
		if round < api.MaxRound-28 {
			r.settle()
		}
	}
	r.checkPreparing(6, 8006)
	r.refusesCampaign(6, api.ErrRound)
	r.refusesCampaign(5, api.ErrNet)
	r.refusesCampaign(7, api.ErrArg)
}
