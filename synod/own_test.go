package synod_test

import (
	"slices"
	"testing"

	"synod/api"
)

// busy is a room with posts in the logs, and with Promises on their way that have votes.
func busy(t *testing.T) room {
	r := led(t, 3, 0)
	r.submit(0, small)
	r.submit(0, hi)
	r.settle()
	r.campaign(1)
	r.pass(api.Prepare, 1, 0, 1, 2)
	r.checkNet(promise(0, 1, 17, vote(0, 8, small), vote(1, 8, hi)),
		promise(1, 1, 17, vote(0, 8, small), vote(1, 8, hi)), promise(2, 1, 17, vote(0, 8, small), vote(1, 8, hi)))
	return r
}

// doubled is busy, with each Promise twice.
func doubled(t *testing.T) room {
	r := busy(t)
	for k := range 3 {
		r.double(k)
	}
	return r
}

// voteUnderWay is a room in which 2 prepares 18, and Promises of 1, who alone has accepted hi for slot 0, and of 2 are on their way.
func voteUnderWay(t *testing.T) room {
	r := led(t, 3, 0)
	r.submit(0, hi)
	r.give(propose(0, 1, 8, 0, hi))
	r.loseAll()
	r.campaign(2)
	r.pass(api.Prepare, 2, 1, 2)
	return r
}

// scribble writes into a list and its spare room.
func scribble[T any](list []T, what T) {
	room := list[:cap(list)]
	for i := range room {
		room[i] = what
	}
}

func scribbleNet(net []api.Message) {
	for _, m := range net {
		scribble(m.Accepted, vote(7, 8000, great))
	}
	scribble(net, decide(2, 0, 9, great))
}

func copyNet(net []api.Message) []api.Message {
	net = slices.Clone(net)
	for i := range net {
		net[i].Accepted = slices.Clone(net[i].Accepted)
	}
	return net
}

func TestNetIsFresh(t *testing.T) {
	checkNetIsFresh(busy(t))
	checkNetIsFresh(doubled(t))
}

func checkNetIsFresh(r room) {
	r.t.Helper()
	first, second := r.Net(), r.Net()
	want := copyNet(first)
	scribbleNet(first)
	if !slices.EqualFunc(second, want, sameMessage) {
		r.t.Errorf("another list that came out is changed: %+v", second)
	}
	r.checkNet(want...)
	scribbleNet(r.Net())
	r.checkNet(want...)
	r.settle()
	r.checkLeading(1, 17, 2)
	for replica := range 3 {
		r.checkLog(replica, small, hi)
	}
}

func TestListsOfOneNetAreApart(t *testing.T) {
	checkListsAreApart(t, busy(t).Net())
	checkListsAreApart(t, doubled(t).Net())
}

func checkListsAreApart(t *testing.T, net []api.Message) {
	t.Helper()
	want := copyNet(net)
	for k := range net {
		scribble(net[k].Accepted, vote(7, 8000, great))
		for other := k + 1; other < len(net); other++ {
			if !sameMessage(net[other], want[other]) {
				t.Errorf("written into the list of message %d, that of %d is %+v", k, other, net[other])
			}
		}
	}
}

// Neither what Net gave out ahead of Double nor what it gives out behind it reaches what comes.
func TestListOfDoubledPromiseIsTheCallers(t *testing.T) {
	r := voteUnderWay(t)
	k := r.find(api.Promise, 1, 2)
	ahead := r.Net()
	r.double(k)
	scribbleNet(ahead)
	scribbleNet(r.Net())
	r.lose(k)
	scribbleNet(r.Net())
	last := len(r.Net()) - 1
	if m := r.Net()[last]; !sameMessage(m, promise(1, 2, 18, vote(0, 8, hi))) {
		t.Fatalf("what was doubled is %+v", m)
	}
	r.deliver(last)
	r.come(api.Promise, 2, 2, proposals(3, 2, 18, 0, hi)...)
}

// What came out stays as it was, whatever is done with the synod.
func TestWhatCameOutStays(t *testing.T) {
	r := busy(t)
	before := r.view()
	kept := view{net: copyNet(before.net), roles: slices.Clone(before.roles)}
	for _, posts := range before.posts {
		kept.posts = append(kept.posts, slices.Clone(posts))
	}
	r.lose(0)
	r.double(0)
	r.settle()
	r.submit(1, great)
	r.crash(0)
	r.campaign(2)
	r.settle()
	if !sameView(before, kept) {
		t.Errorf("%+v has changed to %+v", kept, before)
	}
}

func TestLogAndChatAreFresh(t *testing.T) {
	r := busy(t)
	for replica := range 3 {
		log, _ := r.Log(replica)
		other, _ := r.Log(replica)
		chat, _ := r.Chat(replica, 1)
		otherChat, _ := r.Chat(replica, 1)
		scribble(log, great)
		scribble(chat, great)
		if !slices.Equal(other, []api.Post{small, hi}) || !slices.Equal(otherChat, []api.Post{hi}) {
			t.Errorf("other lists that came out are changed: %+v, %+v", other, otherChat)
		}
		r.checkLog(replica, small, hi)
		r.checkChat(replica, 1, hi)
	}
	r.settle()
	r.submit(1, great)
	r.settle()
	for replica := range 3 {
		r.checkLog(replica, small, hi, great)
	}
}

func TestTellingChangesNothing(t *testing.T) {
	r, quiet := busy(t), busy(t)
	for len(quiet.Net()) > 0 {
		for range 3 {
			r.view()
		}
		r.deliver(0)
		quiet.deliver(0)
		if !sameView(r.view(), quiet.view()) {
			t.Fatalf("%+v, and without asking %+v", r.view(), quiet.view())
		}
	}
}

func TestSynodsAreApart(t *testing.T) {
	first, second := begin(t, 3), begin(t, 3)
	first.campaign(1)
	second.checkNet()
	second.checkIdle(1, 0)
	first.settle()
	first.submit(1, hi)
	second.checkNet()
	second.campaign(2)
	first.checkNet(proposals(3, 1, 9, 0, hi)...)
	first.settle()
	second.checkNet(prepares(3, 2, 10)...)
	second.settle()
	for replica := range 3 {
		first.checkLog(replica, hi)
		second.checkLog(replica)
	}
	first.checkLeading(1, 9, 1)
	second.checkLeading(2, 10, 0)
	checkNew(begin(t, 3))
}
