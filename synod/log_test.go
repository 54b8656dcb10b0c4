package synod_test

import (
	"math"
	"testing"

	"synod/api"
)

func TestLogUpToFirstGap(t *testing.T) {
	r := led(t, 3, 0)
	posts := []api.Post{small, hi, great}
	for _, p := range posts {
		r.submit(0, p)
	}
	r.settleBut(api.Decide)
	for replica := range 3 {
		if replica == 0 {
			r.checkLog(0, posts...)
		} else {
			r.checkLog(replica)
		}
	}
	r.give(decide(0, 1, 2, great))
	r.checkLog(1)
	r.give(decide(0, 1, 0, small))
	r.checkLog(1, small)
	r.checkLog(2)
	r.give(decide(0, 1, 1, hi))
	r.checkLog(1, posts...)
	for channel, want := range [][]api.Post{{small}, {hi}, nil, {great}} {
		r.checkChat(1, channel, want...)
		r.checkChat(2, channel)
	}
}

func TestLogOfAllSlots(t *testing.T) {
	r := led(t, 5, 2)
	r.fill(2)
	r.settle()
	var all []api.Post
	channels := make([][]api.Post, api.Channels)
	for slot := range api.Slots {
		p := post(5, 1+slot, slot%api.Channels, "x")
		all = append(all, p)
		channels[p.Channel] = append(channels[p.Channel], p)
	}
	for replica := range 5 {
		r.checkLog(replica, all...)
		for channel, want := range channels {
			r.checkChat(replica, channel, want...)
		}
	}
}

func TestLogAndChatWithNothing(t *testing.T) {
	r := led(t, 3, 0)
	r.submit(0, small)
	r.submit(0, hi)
	r.give(propose(0, 2, 8, 1, hi))
	r.leadWith(2, 1, 2)
	r.submit(2, small)
	r.settle()
	for replica := range 3 {
		r.checkLog(replica, nothing, hi, small)
		r.checkChat(replica, 0, small)
		r.checkChat(replica, 1, hi)
		r.checkChat(replica, 2)
		r.checkChat(replica, 3)
	}
}

// twice is a room in which two posts of one Client and Seq are decided, for the slots 0 and 1; behind them is hi, for slot 2.
func twice(t *testing.T, first, second api.Post) room {
	r := led(t, 3, 0)
	r.submit(0, small)
	r.submit(0, second)
	r.give(propose(0, 0, 8, 1, second)) // 0 alone accepts it
	r.leadWith(1, 1, 2)
	r.submit(1, first)
	r.give(propose(1, 1, 17, 0, first))
	r.give(propose(1, 2, 17, 0, first))
	r.give(prepare(1, 0, 17))
	r.leadWith(0, 0, 1)
	r.checkLeading(0, 24, 2)
	r.submit(0, hi)
	r.settle()
	for replica := range 3 {
		r.checkLog(replica, first, second, hi)
	}
	return r
}

func TestChatHasOneClientAndSeqOnce(t *testing.T) {
	for _, c := range []struct {
		name          string
		first, second api.Post
		chats         [api.Channels][]api.Post
	}{
		{"the same post", post(3, 7, 1, "a"), post(3, 7, 1, "a"), [api.Channels][]api.Post{1: {post(3, 7, 1, "a"), hi}}},
		{"another text", post(3, 7, 1, "a"), post(3, 7, 1, "b"), [api.Channels][]api.Post{1: {post(3, 7, 1, "a"), hi}}},
		{"another channel", post(3, 7, 2, "a"), post(3, 7, 1, "a"), [api.Channels][]api.Post{1: {hi}, 2: {post(3, 7, 2, "a")}}},
		{"a greater channel", post(3, 7, 0, "a"), post(3, 7, 3, "b"), [api.Channels][]api.Post{0: {post(3, 7, 0, "a")}, 1: {hi}}},
		{"another Seq", post(3, 7, 1, "a"), post(3, 8, 1, "a"), [api.Channels][]api.Post{1: {post(3, 7, 1, "a"), post(3, 8, 1, "a"), hi}}},
		{"another Client", post(3, 7, 1, "a"), post(4, 7, 1, "a"), [api.Channels][]api.Post{1: {post(3, 7, 1, "a"), post(4, 7, 1, "a"), hi}}},
	} {
		t.Run(c.name, func(t *testing.T) {
			r := twice(t, c.first, c.second)
			for channel, want := range c.chats {
				for replica := range 3 {
					r.checkChat(replica, channel, want...)
				}
			}
		})
	}
}

func TestTellingOfNoReplica(t *testing.T) {
	for _, n := range sizes {
		r := led(t, n, 0)
		r.submit(0, small)
		r.settle()
		for _, replica := range noReplicas(n) {
			if log, e := r.Log(replica); len(log) != 0 || e != api.ErrArg {
				t.Errorf("Log(%d) = %+v, %d, want ErrArg", replica, log, e)
			}
			if role, e := r.Role(replica); role != (api.Role{}) || e != api.ErrArg {
				t.Errorf("Role(%d) = %+v, %d, want ErrArg", replica, role, e)
			}
			r.checkNoChat(replica, 0)
			r.checkNoChat(replica, 4)
		}
		for _, channel := range []int{-1, 4, 5, 1 << 32, math.MaxInt, math.MinInt} {
			r.checkNoChat(0, channel)
		}
	}
}

func (r room) checkNoChat(replica, channel int) {
	r.t.Helper()
	if chat, e := r.Chat(replica, channel); len(chat) != 0 || e != api.ErrArg {
		r.t.Errorf("Chat(%d, %d) = %+v, %d, want ErrArg", replica, channel, chat, e)
	}
}

func TestRoleOfEachKind(t *testing.T) {
	r := begin(t, 3)
	r.checkRole(1, api.Role{Kind: 0, Ballot: 0, Promised: 0, Next: 0})
	r.campaign(1)
	r.checkRole(1, api.Role{Kind: 1, Ballot: 9, Promised: 9, Next: 0})
	r.settle()
	r.submit(1, small)
	r.checkRole(1, api.Role{Kind: 2, Ballot: 9, Promised: 9, Next: 1})
	r.checkRole(2, api.Role{Kind: 0, Ballot: 0, Promised: 9, Next: 0})
	r.campaign(1)
	r.checkRole(1, api.Role{Kind: 1, Ballot: 17, Promised: 17, Next: 0})
	r.campaign(2)
	r.pass(api.Prepare, 2, 1)
	r.checkRole(1, api.Role{Kind: 0, Ballot: 0, Promised: 18, Next: 0})
}
