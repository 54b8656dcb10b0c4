package replica_test

import (
	"slices"
	"testing"

	"synod/api"
	"synod/mail"
	"synod/replica"
)

var (
	a = api.Post{Client: 1, Seq: 1, Text: "a"}
	b = api.Post{Client: 2, Seq: 1, Text: "b"}
)

// alone is replica 0 of so many; its net takes what it sends, and nothing comes but what a test makes up.
func alone(replicas int) (*replica.Replica, *mail.Net) {
	net := &mail.Net{}
	return replica.New(0, replicas, net), net
}

// empty takes all out of a net, to tell what a next step sends.
func empty(net *mail.Net) []api.Message {
	sent := net.List()
	for range sent {
		net.Take(0)
	}
	return sent
}

func promise(from int, accepted ...api.Vote) api.Message {
	return api.Message{Kind: api.Promise, From: from, Ballot: 8, Accepted: accepted}
}

func accept(from int) api.Message {
	return api.Message{Kind: api.Accept, From: from, Ballot: 8}
}

func decide(slot int, value api.Post) api.Message {
	return api.Message{Kind: api.Decide, From: 1, Slot: slot, Value: value}
}

func values(sent []api.Message) []api.Post {
	var all []api.Post
	for _, m := range sent {
		all = append(all, m.Value)
	}
	return all
}

func TestPromiseThatComesTwice(t *testing.T) {
	r, _ := alone(3)
	r.Campaign()
	r.Receive(promise(1))
	r.Receive(promise(1))
	if r.Role().Kind != api.Preparing {
		t.Errorf("one promise, twice: %+v", r.Role())
	}
	r.Receive(promise(2))
	if r.Role().Kind != api.Leading {
		t.Errorf("two promises: %+v", r.Role())
	}
}

func TestAcceptThatComesTwice(t *testing.T) {
	r, _ := alone(3)
	r.Campaign()
	r.Receive(promise(1))
	r.Receive(promise(2))
	r.Submit(a)
	r.Receive(accept(1))
	r.Receive(accept(1))
	if len(r.Log()) != 0 {
		t.Errorf("one vote, twice: %+v", r.Log())
	}
	r.Receive(accept(2))
	if !slices.Equal(r.Log(), []api.Post{a}) {
		t.Errorf("two votes: %+v", r.Log())
	}
}

func TestFirstOfEqualBallotsIsKept(t *testing.T) {
	r, net := alone(3)
	r.Campaign()
	empty(net)
	r.Receive(promise(1, api.Vote{Ballot: 7, Value: a}))
	r.Receive(promise(2, api.Vote{Ballot: 7, Value: b}))
	if sent := empty(net); !slices.Equal(values(sent), []api.Post{a, a, a}) {
		t.Errorf("of equal ballots: %+v", sent)
	}
}

func TestFirstDecisionStays(t *testing.T) {
	r, net := alone(3)
	r.Receive(decide(0, a))
	r.Receive(decide(0, b))
	r.Receive(decide(1, api.Post{}))
	r.Receive(decide(1, b))
	if !slices.Equal(r.Log(), []api.Post{a, {}}) || len(empty(net)) != 0 {
		t.Errorf("Log = %+v", r.Log())
	}
}

func TestNextIsBehindWhatIsDecidedAlone(t *testing.T) {
	r, net := alone(3)
	r.Receive(decide(2, a))
	r.Campaign()
	empty(net)
	r.Receive(promise(1))
	r.Receive(promise(2))
	if r.Role().Next != 3 {
		t.Errorf("Next behind what is decided for slot 2: %+v", r.Role())
	}
	if sent := empty(net); !slices.Equal(values(sent), make([]api.Post, 6)) || sent[5].Slot != 1 {
		t.Errorf("for the slots ahead: %+v", sent)
	}
}
