package synod_test

import (
	"slices"
	"testing"

	"synod/api"
)

func TestDocumentsExample(t *testing.T) {
	r := begin(t, 3)
	r.campaign(1)
	r.checkNet(prepare(1, 0, 9), prepare(1, 1, 9), prepare(1, 2, 9))
	for range 3 {
		r.deliver(0)
	}
	r.checkNet(promise(0, 1, 9), promise(1, 1, 9), promise(2, 1, 9))
	r.deliver(0)
	r.deliver(0)
	r.checkLeading(1, 9, 0)
	r.submit(1, hi)
	r.checkNet(promise(2, 1, 9), propose(1, 0, 9, 0, hi), propose(1, 1, 9, 0, hi), propose(1, 2, 9, 0, hi))
	r.settle()
	for replica := range 3 {
		r.checkLog(replica, hi)
	}
}

// chance is a row of numbers that looks like chance, but is the same each time.
type chance uint64

func (c *chance) below(n int) int {
	*c = *c*6364136223846793005 + 1442695040888963407
	return int(uint64(*c)>>33) % n
}

// TestReplicasAgree lets replicas campaign, posts be submitted and messages come in all kinds of orders.
func TestReplicasAgree(t *testing.T) {
	for seed := range 60 {
		c := chance(seed)
		r := begin(t, sizes[seed%len(sizes)])
		logs := make([][]api.Post, r.n)
		for range 600 {
			r.anyStep(&c)
			r.checkAgreement(logs)
		}
		r.settle()
		r.checkAgreement(logs)
	}
}

// anyStep submits posts of Client 1 to 3 alone.
func (r room) anyStep(c *chance) {
	replica := c.below(r.n)
	switch step := c.below(40); {
	case step == 0:
		r.Campaign(replica)
	case step < 12:
		r.Submit(replica, post(1+c.below(3), 1+c.below(5), c.below(api.Channels), ""))
	case len(r.Net()) > 0:
		r.deliver(c.below(len(r.Net())))
	}
}

// checkAgreement holds the logs against each other and against what they were.
func (r room) checkAgreement(logs [][]api.Post) {
	r.t.Helper()
	var longest []api.Post
	for replica := range r.n {
		log, _ := r.Log(replica)
		if !begins(log, logs[replica]) {
			r.t.Fatalf("Log(%d) was %+v and is %+v", replica, logs[replica], log)
		}
		logs[replica] = log
		r.checkPosts(replica, log)
		if len(log) > len(longest) {
			longest = log
		}
	}
	for replica, log := range logs {
		if !begins(longest, log) {
			r.t.Fatalf("Log(%d) = %+v, another's is %+v", replica, log, longest)
		}
	}
}

func begins(log, beginning []api.Post) bool {
	return len(log) >= len(beginning) && slices.Equal(log[:len(beginning)], beginning)
}

// checkPosts: all is nothing or was submitted, and the chats have each Client and Seq once.
func (r room) checkPosts(replica int, log []api.Post) {
	r.t.Helper()
	names := map[[2]int]int{}
	for _, p := range log {
		if p != nothing && (p.Client < 1 || p.Client > 3 || p.Seq < 1 || p.Seq > 5) {
			r.t.Fatalf("Log(%d) has %+v, which nobody submitted", replica, p)
		}
	}
	for channel := range api.Channels {
		chat, _ := r.Chat(replica, channel)
		for _, p := range chat {
			names[[2]int{p.Client, p.Seq}]++
			if names[[2]int{p.Client, p.Seq}] > 1 || p == nothing || p.Channel != channel {
				r.t.Fatalf("Chat(%d, %d) = %+v", replica, channel, chat)
			}
		}
	}
}
