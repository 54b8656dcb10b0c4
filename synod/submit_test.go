package synod_test

import (
	"testing"

	"synod/api"
)

var nothing api.Post

// proposals are those of one value to all replicas.
func proposals(n, from, ballot, slot int, value api.Post) []api.Message {
	var all []api.Message
	for to := range n {
		all = append(all, propose(from, to, ballot, slot, value))
	}
	return all
}

// fill submits posts of Client 5 until no slot is left.
func (r room) fill(replica int) {
	r.t.Helper()
	role, _ := r.Role(replica)
	for slot := role.Next; slot < api.Slots; slot++ {
		r.submit(replica, post(5, 1+slot, slot%api.Channels, "x"))
	}
}

// crowd lets one replica campaign until the net has no room for its Prepares.
func (r room) crowd(replica int) {
	r.t.Helper()
	for len(r.Net())+r.n <= api.MaxNet {
		r.campaign(replica)
	}
}

func TestSubmitProposesForNext(t *testing.T) {
	for _, n := range sizes {
		for replica := range n {
			r := led(t, n, replica)
			var all []api.Message
			for slot, p := range []api.Post{small, great, hi} {
				r.submit(replica, p)
				all = append(all, proposals(n, replica, 8+replica, slot, p)...)
				r.checkNet(all...)
				r.checkLeading(replica, 8+replica, slot+1)
			}
		}
	}
}

func TestSubmitTakesPostsAtTheEdges(t *testing.T) {
	for _, p := range []api.Post{
		post(1, 1, 0, ""), post(9, 1, 0, ""), post(1, 1000, 0, ""), post(1, 1, 3, ""),
		post(1, 1, 0, "twelve bytes"), post(1, 1, 0, "\x00\xff\x80"),
	} {
		r := led(t, 3, 0)
		r.submit(0, p)
		r.settle()
		for replica := range 3 {
			r.checkLog(replica, p)
		}
	}
}

func TestSubmitOfWhatIsNoPost(t *testing.T) {
	r := led(t, 3, 0)
	r.campaign(1)
	for _, p := range append(wrongPosts(), nothing) {
		r.refusesSubmit(0, p, api.ErrArg) // leads
		r.refusesSubmit(1, p, api.ErrArg) // prepares
		r.refusesSubmit(2, p, api.ErrArg) // idle
		r.refusesSubmit(3, p, api.ErrArg)
	}
}

func TestSubmitToNoReplica(t *testing.T) {
	for _, n := range sizes {
		r := led(t, n, 0)
		for _, replica := range noReplicas(n) {
			r.refusesSubmit(replica, hi, api.ErrArg)
		}
	}
}

func TestSubmitToOneThatDoesNotLead(t *testing.T) {
	r := begin(t, 3)
	r.refusesSubmit(1, hi, api.ErrLeader)
	r.campaign(1)
	r.refusesSubmit(1, hi, api.ErrLeader)
	r.pass(api.Prepare, 1, 0, 1)
	r.pass(api.Promise, 0, 1)
	r.refusesSubmit(1, hi, api.ErrLeader)
	r.pass(api.Promise, 1, 1)
	r.submit(1, hi)
	r.campaign(2)
	r.pass(api.Prepare, 2, 1)
	r.refusesSubmit(1, small, api.ErrLeader)
}

func TestSubmitAgainWhatIsProposed(t *testing.T) {
	r := led(t, 3, 0)
	r.submit(0, hi)
	r.submit(0, small)
	for range 2 { // first proposed, then decided
		r.refusesSubmit(0, hi, api.ErrAgain)
		r.refusesSubmit(0, post(hi.Client, hi.Seq, 3, "other"), api.ErrAgain)
		r.refusesSubmit(0, small, api.ErrAgain)
		r.settle()
	}
	r.submit(0, post(hi.Client, 1, hi.Channel, hi.Text))
	r.submit(0, post(1, hi.Seq, hi.Channel, hi.Text))
	r.checkLeading(0, 8, 4)
}

// decidedBehindGap is a room in which small was proposed for slot 0, and hi is decided for slot 1 at 0, who leads, and at 2.
func decidedBehindGap(t *testing.T) room {
	r := led(t, 3, 0)
	r.submit(0, small)
	r.submit(0, hi)
	r.deliver(5) // hi to 2
	r.deliver(3) // hi to 0
	r.pass(api.Accept, 2, 0)
	r.pass(api.Accept, 0, 0)
	r.pass(api.Decide, 0, 2)
	return r
}

func TestSubmitAgainWhatIsDecidedBehindGap(t *testing.T) {
	r := decidedBehindGap(t)
	r.checkLog(0)
	r.refusesSubmit(0, hi, api.ErrAgain)
	r.campaign(2)
	r.pass(api.Prepare, 2, 1, 2)
	r.pass(api.Promise, 1, 2)
	r.come(api.Promise, 2, 2, proposals(3, 2, 18, 0, nothing)...)
	r.checkLeading(2, 18, 2)
	r.refusesSubmit(2, hi, api.ErrAgain)
	r.refusesSubmit(2, post(hi.Client, hi.Seq, 0, ""), api.ErrAgain)
	r.submit(2, small)
}

func TestSubmitAgainWhatWasKept(t *testing.T) {
	r := led(t, 3, 0)
	r.submit(0, hi)
	r.pass(api.Propose, 0, 1)
	r.campaign(2)
	r.pass(api.Prepare, 2, 1, 2)
	r.pass(api.Promise, 2, 2)
	r.come(api.Promise, 1, 2, proposals(3, 2, 18, 0, hi)...)
	r.checkLog(2)
	r.refusesSubmit(2, hi, api.ErrAgain)
	r.refusesSubmit(2, post(hi.Client, hi.Seq, 0, ""), api.ErrAgain)
}

func TestSubmitAgainInAnotherLead(t *testing.T) {
	r := led(t, 3, 0)
	r.submit(0, hi)
	r.campaign(0)
	r.pass(api.Prepare, 0, 1, 2)
	r.pass(api.Promise, 1, 0)
	r.come(api.Promise, 2, 0)
	r.checkLeading(0, 16, 0)
	r.submit(0, hi) // nobody has accepted it, and it was proposed in a lead that is over
	r.checkLeading(0, 16, 1)
}

func TestSubmitWithoutSlot(t *testing.T) {
	r := led(t, 3, 0)
	r.fill(0)
	r.checkLeading(0, 8, 16)
	for range 2 { // first proposed, then decided
		r.refusesSubmit(0, hi, api.ErrFull)
		r.settle()
	}
	for replica := range 3 {
		if log, _ := r.Log(replica); len(log) != api.Slots {
			t.Errorf("Log(%d) has %d posts", replica, len(log))
		}
	}
}

func TestSubmitWithoutRoom(t *testing.T) {
	r := led(t, 3, 0)
	r.submit(0, small)
	r.crowd(1)
	if len(r.Net()) != 198 {
		t.Fatalf("%d messages", len(r.Net()))
	}
	r.refusesSubmit(0, hi, api.ErrNet)
	r.pass(api.Propose, 0, 0)
	r.come(api.Accept, 0, 0)
	r.submit(0, hi) // with 197
	r.checkLeading(0, 8, 2)
	r.refusesSubmit(0, great, api.ErrNet)
	if net := r.Net(); len(net) != 200 || !sameMessage(net[199], propose(0, 2, 8, 1, hi)) {
		t.Errorf("%d messages, the last is %+v", len(net), net[len(net)-1])
	}
}

func TestSubmitErrorsInOrder(t *testing.T) {
	r := led(t, 3, 0)
	r.fill(0)
	wrong, again := post(10, 1, 0, ""), post(5, 3, 0, "")
	r.refusesSubmit(0, again, api.ErrAgain) // and full
	r.crowd(1)
	r.refusesSubmit(3, wrong, api.ErrArg)
	r.refusesSubmit(3, hi, api.ErrArg)
	r.refusesSubmit(0, wrong, api.ErrArg)
	r.refusesSubmit(1, wrong, api.ErrArg)
	r.refusesSubmit(1, again, api.ErrLeader)
	r.refusesSubmit(0, again, api.ErrAgain) // and full, and no room
	r.refusesSubmit(0, hi, api.ErrFull)     // and no room
}

func TestSubmitAgainAheadOfNoRoom(t *testing.T) {
	r := led(t, 3, 0)
	r.submit(0, hi)
	r.crowd(1)
	r.refusesSubmit(0, hi, api.ErrAgain)
	r.refusesSubmit(1, small, api.ErrLeader)
}

func TestSubmitWhatIsDecidedToOneThatDoesNotLead(t *testing.T) {
	r := led(t, 3, 0)
	r.fill(0)
	r.settle()
	log, _ := r.Log(1)
	r.refusesSubmit(1, log[0], api.ErrLeader)
	r.campaign(1)
	r.refusesSubmit(1, log[0], api.ErrLeader)
}

// NEXT stays as it was when the lead began, though its slot is decided by another one meanwhile.
func TestSubmitForSlotThatIsDecidedMeanwhile(t *testing.T) {
	r := led(t, 3, 0)
	r.campaign(1)
	r.pass(api.Prepare, 1, 1, 2)
	r.pass(api.Promise, 1, 1)
	r.pass(api.Promise, 2, 1)
	r.submit(1, small)
	r.pass(api.Propose, 1, 1, 2)
	r.pass(api.Accept, 1, 1)
	r.pass(api.Accept, 2, 1)
	r.come(api.Decide, 1, 0)
	r.checkLog(0, small)
	r.checkLeading(0, 8, 0)
	r.refusesSubmit(0, small, api.ErrAgain)
	before := r.Net()
	r.submit(0, hi)
	r.checkNet(append(before, proposals(3, 0, 8, 0, hi)...)...)
	r.checkLeading(0, 8, 1)
}
