package synod_test

import (
	"math"
	"slices"
	"testing"

	"synod/api"
	"synod/synod"
)

// sizes are all that New takes.
var sizes = []int{1, 3, 5, 7}

// room is a synod under test, whose steps must be taken.
type room struct {
	*synod.Synod
	t *testing.T
	n int
}

func begin(t *testing.T, n int) room {
	t.Helper()
	s, e := synod.New(n)
	if s == nil || e != api.OK {
		t.Fatalf("New(%d) = %v, %d", n, s, e)
	}
	return room{s, t, n}
}

// led is a room in which one replica leads, and no message is on its way.
func led(t *testing.T, n, replica int) room {
	t.Helper()
	r := begin(t, n)
	r.campaign(replica)
	r.settle()
	return r
}

func post(client, seq, channel int, text string) api.Post {
	return api.Post{Client: client, Seq: seq, Channel: channel, Text: text}
}

func (r room) campaign(replica int) {
	r.t.Helper()
	if e := r.Campaign(replica); e != api.OK {
		r.t.Fatalf("Campaign(%d) = %d", replica, e)
	}
}

func (r room) submit(replica int, p api.Post) {
	r.t.Helper()
	if e := r.Submit(replica, p); e != api.OK {
		r.t.Fatalf("Submit(%d, %+v) = %d", replica, p, e)
	}
}

func (r room) deliver(k int) {
	r.t.Helper()
	if e := r.Deliver(k); e != api.OK {
		r.t.Fatalf("Deliver(%d) = %d, with %d messages", k, e, len(r.Net()))
	}
}

func (r room) lose(k int) {
	r.t.Helper()
	if e := r.Lose(k); e != api.OK {
		r.t.Fatalf("Lose(%d) = %d, with %d messages", k, e, len(r.Net()))
	}
}

func (r room) double(k int) {
	r.t.Helper()
	if e := r.Double(k); e != api.OK {
		r.t.Fatalf("Double(%d) = %d, with %d messages", k, e, len(r.Net()))
	}
}

func (r room) crash(replica int) {
	r.t.Helper()
	if e := r.Crash(replica); e != api.OK {
		r.t.Fatalf("Crash(%d) = %d", replica, e)
	}
}

// loseAll leaves an empty net.
func (r room) loseAll() {
	r.t.Helper()
	for range r.Net() {
		r.lose(0)
	}
	r.checkNet()
}

// swell doubles the first message until there are so many.
func (r room) swell(messages int) {
	r.t.Helper()
	for range messages - len(r.Net()) {
		r.double(0)
	}
	if len(r.Net()) != messages {
		r.t.Fatalf("%d messages, want %d", len(r.Net()), messages)
	}
}

// find tells where the first message of a kind stands, from one replica to another.
func (r room) find(kind, from, to int) int {
	r.t.Helper()
	k := slices.IndexFunc(r.Net(), func(m api.Message) bool { return m.Kind == kind && m.From == from && m.To == to })
	if k < 0 {
		r.t.Fatalf("no message of kind %d from %d to %d in %+v", kind, from, to, r.Net())
	}
	return k
}

// come lets a message come, wherever it stands, and asks that just these are sent.
func (r room) come(kind, from, to int, sent ...api.Message) {
	r.t.Helper()
	k := r.find(kind, from, to)
	want := append(slices.Delete(r.Net(), k, k+1), sent...)
	r.deliver(k)
	r.checkNet(want...)
}

// pass lets a message come, whatever it sends.
func (r room) pass(kind, from int, to ...int) {
	r.t.Helper()
	for _, receiver := range to {
		r.deliver(r.find(kind, from, receiver))
	}
}

// give lets this very message come, whatever it sends.
func (r room) give(m api.Message) {
	r.t.Helper()
	r.deliver(slices.IndexFunc(r.Net(), func(other api.Message) bool { return sameMessage(m, other) }))
}

// leadWith lets a replica campaign, and the promises of these alone come, in this order.
func (r room) leadWith(replica int, quorum ...int) {
	r.t.Helper()
	r.campaign(replica)
	role, _ := r.Role(replica)
	for _, member := range quorum {
		r.give(prepare(replica, member, role.Ballot))
		r.deliver(len(r.Net()) - 1)
	}
	if role, _ := r.Role(replica); role.Kind != api.Leading {
		r.t.Fatalf("Role(%d) = %+v", replica, role)
	}
}

// settle lets all messages come, in order.
func (r room) settle() {
	r.t.Helper()
	for steps := 0; len(r.Net()) > 0; steps++ {
		if steps > 20000 {
			r.t.Fatal("there is no end of messages")
		}
		r.deliver(0)
	}
}

func (r room) checkNet(want ...api.Message) {
	r.t.Helper()
	if net := r.Net(); !slices.EqualFunc(net, want, sameMessage) {
		r.t.Fatalf("Net = %+v, want %+v", net, want)
	}
}

func (r room) checkRole(replica int, want api.Role) {
	r.t.Helper()
	if role, e := r.Role(replica); role != want || e != api.OK {
		r.t.Fatalf("Role(%d) = %+v, %d, want %+v", replica, role, e, want)
	}
}

func (r room) checkIdle(replica, promised int) {
	r.t.Helper()
	r.checkRole(replica, api.Role{Promised: promised})
}

func (r room) checkPreparing(replica, ballot int) {
	r.t.Helper()
	r.checkRole(replica, api.Role{Kind: api.Preparing, Ballot: ballot, Promised: ballot})
}

func (r room) checkLeading(replica, ballot, next int) {
	r.t.Helper()
	r.checkRole(replica, api.Role{Kind: api.Leading, Ballot: ballot, Promised: ballot, Next: next})
}

func (r room) checkLog(replica int, want ...api.Post) {
	r.t.Helper()
	if log, e := r.Log(replica); !slices.Equal(log, want) || e != api.OK {
		r.t.Fatalf("Log(%d) = %+v, %d, want %+v", replica, log, e, want)
	}
}

func (r room) checkChat(replica, channel int, want ...api.Post) {
	r.t.Helper()
	if chat, e := r.Chat(replica, channel); !slices.Equal(chat, want) || e != api.OK {
		r.t.Fatalf("Chat(%d, %d) = %+v, %d, want %+v", replica, channel, chat, e, want)
	}
}

// view is all that is to be seen of a synod.
type view struct {
	net   []api.Message
	roles []api.Role
	posts [][]api.Post
}

func (r room) view() view {
	v := view{net: r.Net()}
	for replica := range r.n {
		role, _ := r.Role(replica)
		log, _ := r.Log(replica)
		v.roles = append(v.roles, role)
		v.posts = append(v.posts, log)
		for channel := range api.Channels {
			chat, _ := r.Chat(replica, channel)
			v.posts = append(v.posts, chat)
		}
	}
	return v
}

func sameView(a, b view) bool {
	return slices.EqualFunc(a.net, b.net, sameMessage) && slices.Equal(a.roles, b.roles) &&
		slices.EqualFunc(a.posts, b.posts, slices.Equal[[]api.Post])
}

// refuses: a step answers an error, and nothing is changed by it.
func (r room) refuses(what string, want api.Errno, step func() api.Errno) {
	r.t.Helper()
	before := r.view()
	if e := step(); e != want {
		r.t.Fatalf("%s = %d, want %d", what, e, want)
	}
	if after := r.view(); !sameView(before, after) {
		r.t.Fatalf("%s, with an error, has changed %+v to %+v", what, before, after)
	}
}

func (r room) refusesCampaign(replica int, want api.Errno) {
	r.t.Helper()
	r.refuses("Campaign", want, func() api.Errno { return r.Campaign(replica) })
}

func (r room) refusesSubmit(replica int, p api.Post, want api.Errno) {
	r.t.Helper()
	r.refuses("Submit", want, func() api.Errno { return r.Submit(replica, p) })
}

func (r room) refusesDeliver(k int) {
	r.t.Helper()
	r.refuses("Deliver", api.ErrArg, func() api.Errno { return r.Deliver(k) })
}

func (r room) refusesLose(k int) {
	r.t.Helper()
	r.refuses("Lose", api.ErrArg, func() api.Errno { return r.Lose(k) })
}

func (r room) refusesDouble(k int, want api.Errno) {
	r.t.Helper()
	r.refuses("Double", want, func() api.Errno { return r.Double(k) })
}

func (r room) refusesCrash(replica int) {
	r.t.Helper()
	r.refuses("Crash", api.ErrArg, func() api.Errno { return r.Crash(replica) })
}

// noReplicas are numbers that none of n replicas has.
func noReplicas(n int) []int {
	return []int{-1, n, n + 1, n + 8, -n, 1 << 32, math.MaxInt, math.MinInt}
}

func prepare(from, to, ballot int) api.Message {
	return api.Message{Kind: api.Prepare, From: from, To: to, Ballot: ballot}
}

func promise(from, to, ballot int, accepted ...api.Vote) api.Message {
	return api.Message{Kind: api.Promise, From: from, To: to, Ballot: ballot, Accepted: accepted}
}

func propose(from, to, ballot, slot int, value api.Post) api.Message {
	return api.Message{Kind: api.Propose, From: from, To: to, Ballot: ballot, Slot: slot, Value: value}
}

func accept(from, to, ballot, slot int) api.Message {
	return api.Message{Kind: api.Accept, From: from, To: to, Ballot: ballot, Slot: slot}
}

func decide(from, to, slot int, value api.Post) api.Message {
	return api.Message{Kind: api.Decide, From: from, To: to, Slot: slot, Value: value}
}

func refuse(from, to, ballot int) api.Message {
	return api.Message{Kind: api.Refuse, From: from, To: to, Ballot: ballot}
}
