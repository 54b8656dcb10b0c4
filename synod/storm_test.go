package synod_test

import (
	"slices"
	"testing"

	"synod/api"
)

// chance is a row of numbers that looks like chance, but is the same each time.
type chance uint64

func (c *chance) below(n int) int {
	*c = *c*6364136223846793005 + 1442695040888963407
	return int(uint64(*c)>>33) % n
}

// tally counts what happened in several storms, for a test in which little happens shows little.
type tally map[string]int

func (c tally) check(t *testing.T, least int, names ...string) {
	t.Helper()
	for _, name := range names {
		if c[name] < least {
			t.Errorf("%s: %d times, want %d at least", name, c[name], least)
		}
	}
}

// storm is a room in which much is lost, doubled and late, and replicas crash, with what was seen of it.
type storm struct {
	room
	*chance
	seqs     int // how many Seqs each Client has
	cutOff   int // the replica to which nothing comes, if there is such a one
	happened tally
	taken    map[api.Post]bool // what Submit took
	logs     [][]api.Post      // what they were at the last look
	decided  map[int]api.Post  // by slots, as logs and Decides told
}

func newStorm(t *testing.T, seed int, happened tally) *storm {
	c := chance(seed)
	r := begin(t, sizes[seed%len(sizes)])
	return &storm{r, &c, 1 + seed%10, r.n, happened, map[api.Post]bool{}, make([][]api.Post, r.n), map[int]api.Post{}}
}

// rage takes so many steps, and looks at all behind each.
func (s *storm) rage(steps int) {
	s.t.Helper()
	for range steps {
		s.step()
		s.look()
	}
}

func (s *storm) step() {
	s.t.Helper()
	replica, net := s.below(s.n), len(s.Net())
	switch step := s.below(200); {
	case step < 4:
		s.Campaign(replica)
	case step < 6:
		s.crashOne(replica)
	case step < 8:
		s.cutOff = s.below(2 * s.n) // or nobody
	case step < 60:
		s.post()
	case net == 0:
	case step < 70:
		s.loseOne(s.below(net))
	case step < 80:
		s.doubleOne(s.below(net))
	case step < 140:
		s.comeOne(s.below(net))
	default:
		s.comeOne(0)
	}
}

// comeOne loses what would come to the one that is cut off.
func (s *storm) comeOne(k int) {
	s.t.Helper()
	if s.Net()[k].To == s.cutOff {
		s.loseOne(k)
	} else {
		s.deliver(k)
	}
}

func (s *storm) loseOne(k int) {
	s.t.Helper()
	s.lose(k)
	s.happened["lost"]++
}

// post goes to all who lead; there are few Clients and Seqs, so that many come again, with another channel and text.
func (s *storm) post() {
	p := post(1+s.below(2), 1+s.below(s.seqs), s.below(api.Channels), string(rune('a'+s.below(26))))
	for replica := range s.n {
		if s.Submit(replica, p) == api.OK {
			s.taken[p] = true
			s.happened["taken"]++
		}
	}
}

func (s *storm) doubleOne(k int) {
	if s.Double(k) == api.OK {
		s.happened["doubled"]++
	}
}

func (s *storm) crashOne(replica int) {
	s.t.Helper()
	role, _ := s.Role(replica)
	s.crash(replica)
	s.happened[[]string{"crash of idle", "crash of preparing", "crash of leading"}[role.Kind]]++
}

func (s *storm) look() {
	s.t.Helper()
	for _, m := range s.Net() {
		if m.Kind == api.Decide {
			s.agree(m.Slot, m.Value)
		}
	}
	for replica := range s.n {
		log, _ := s.Log(replica)
		if !begins(log, s.logs[replica]) {
			s.t.Fatalf("Log(%d) was %+v and is %+v", replica, s.logs[replica], log)
		}
		s.logs[replica] = log
		for slot, value := range log {
			s.agree(slot, value)
		}
		s.checkChats(replica, log)
	}
	s.checkBeginnings()
}

// agree: one value is decided for a slot, whoever tells it, and it was submitted or is nothing.
func (s *storm) agree(slot int, value api.Post) {
	s.t.Helper()
	if other, ok := s.decided[slot]; ok && other != value {
		s.t.Fatalf("for slot %d both %+v and %+v are decided", slot, other, value)
	}
	if value != nothing && !s.taken[value] {
		s.t.Fatalf("for slot %d is decided %+v, which nobody submitted", slot, value)
	}
	if _, ok := s.decided[slot]; !ok {
		s.happened["decided"]++
	}
	s.decided[slot] = value
}

func (s *storm) checkBeginnings() {
	s.t.Helper()
	for a := range s.logs {
		for b := range s.logs {
			if !begins(s.logs[a], s.logs[b]) && !begins(s.logs[b], s.logs[a]) {
				s.t.Fatalf("Log(%d) = %+v, Log(%d) = %+v", a, s.logs[a], b, s.logs[b])
			}
		}
	}
}

func begins(log, beginning []api.Post) bool {
	return len(log) >= len(beginning) && slices.Equal(log[:len(beginning)], beginning)
}

// checkChats: the chats have all names of the log, each once.
func (s *storm) checkChats(replica int, log []api.Post) {
	s.t.Helper()
	type name struct{ client, seq int }
	names, told := map[name]bool{}, map[name]bool{}
	for _, p := range log {
		names[name{p.Client, p.Seq}] = true
	}
	delete(names, name{})
	for channel := range api.Channels {
		chat, _ := s.Chat(replica, channel)
		for _, p := range chat {
			if told[name{p.Client, p.Seq}] || p.Channel != channel || !slices.Contains(log, p) {
				s.t.Fatalf("Chat(%d, %d) = %+v, the log is %+v", replica, channel, chat, log)
			}
			told[name{p.Client, p.Seq}] = true
		}
	}
	if len(told) != len(names) {
		s.t.Fatalf("the chats of %d have %v, the log is %+v", replica, told, log)
	}
}

// tellLogs counts what is rare in logs.
func (s *storm) tellLogs() {
	for _, log := range s.logs {
		if slices.Contains(log, nothing) {
			s.happened["log with nothing"]++
		}
		for i, p := range log {
			same := func(other api.Post) bool { return other.Client == p.Client && other.Seq == p.Seq }
			if p != nothing && slices.ContainsFunc(log[:i], same) {
				s.happened["name twice in a log"]++
			}
		}
	}
}

func TestReplicasAgree(t *testing.T) {
	happened := tally{}
	for seed := range 120 {
		s := newStorm(t, seed, happened)
		s.rage(600)
		s.settle()
		s.look()
		s.tellLogs()
	}
	happened.check(t, 100, "lost", "doubled", "taken", "decided",
		"crash of idle", "crash of preparing", "crash of leading", "log with nothing")
	happened.check(t, 1, "name twice in a log")
}

// TestOneAloneComesToLead: behind a storm, of whatever length, one replica alone campaigns and all messages come.
func TestOneAloneComesToLead(t *testing.T) {
	happened := tally{}
	for seed := range 400 {
		s := newStorm(t, seed, happened)
		s.rage(s.below(400))
		s.comeAll()
		replica := s.farBehind()
		s.comeToLead(replica)
		for seq := 1; seq <= 3; seq++ {
			s.postToLeader(replica, post(9, seq, seq, "calm"))
		}
	}
	happened.check(t, 10, "lead with the first campaign", "lead with the second campaign",
		"in a log", "gap ahead", "no slot left")
}

// comeAll lets all messages come, in any order.
func (s *storm) comeAll() {
	s.t.Helper()
	for steps := 0; len(s.Net()) > 0; steps++ {
		if steps > 20000 {
			s.t.Fatal("there is no end of messages")
		}
		s.deliver(s.below(len(s.Net())))
		s.look()
	}
}

// farBehind gives the replica that promised the least, which is the least likely to lead at once.
func (s *storm) farBehind() int {
	promised := make([]int, s.n)
	for replica := range s.n {
		role, _ := s.Role(replica)
		promised[replica] = role.Promised
	}
	return slices.Index(promised, slices.Min(promised))
}

func (s *storm) comeToLead(replica int) {
	s.t.Helper()
	for _, campaign := range []string{"first", "second"} {
		s.campaign(replica)
		s.comeAll()
		if role, _ := s.Role(replica); role.Kind == api.Leading {
			s.happened["lead with the "+campaign+" campaign"]++
			return
		}
	}
	role, _ := s.Role(replica)
	s.t.Fatalf("behind two campaigns Role(%d) = %+v", replica, role)
}

// postToLeader: what a leader takes comes into every log that has no gap ahead of it.
func (s *storm) postToLeader(replica int, p api.Post) {
	s.t.Helper()
	role, _ := s.Role(replica)
	if role.Next == api.Slots {
		s.refusesSubmit(replica, p, api.ErrFull)
		s.happened["no slot left"]++
		return
	}
	s.submit(replica, p)
	s.taken[p] = true
	s.comeAll()
	s.checkLeading(replica, role.Ballot, role.Next+1)
	for other, log := range s.logs {
		switch slot := role.Next; {
		case len(log) > slot && log[slot] == p:
			s.happened["in a log"]++
		case len(log) < slot && other != replica:
			s.happened["gap ahead"]++
		default:
			s.t.Fatalf("Log(%d) = %+v, want %+v for slot %d", other, log, p, slot)
		}
	}
}

func TestLeadWithSecondCampaign(t *testing.T) {
	for _, n := range sizes[1:] {
		r := begin(t, n)
		for range 5 {
			r.campaign(n - 1)
			r.lose(r.find(api.Prepare, n-1, 0))
			r.settle()
		}
		r.checkIdle(0, 0)
		r.campaign(0)
		r.settle()
		r.checkIdle(0, 8)
		r.campaign(0)
		r.settle()
		r.checkLeading(0, 48, 0)
		r.submit(0, hi)
		r.settle()
		for replica := range n {
			r.checkLog(replica, hi)
		}
	}
}

func TestLogWithGapAhead(t *testing.T) {
	r := led(t, 3, 0)
	r.submit(0, small)
	r.settleBut(api.Decide)
	r.lose(r.find(api.Decide, 0, 2))
	r.settle()
	r.campaign(0)
	r.settle()
	r.submit(0, hi)
	r.settle()
	r.checkLog(0, small, hi)
	r.checkLog(1, small, hi)
	r.checkLog(2)
	r.campaign(2) // who has the gap learns of it by its own lead
	r.settle()
	r.checkLog(2, small, hi)
}

// TestErrorsChangeNothing: of two equal storms one has wrong calls between its steps, which nothing later shows.
func TestErrorsChangeNothing(t *testing.T) {
	for seed := range 40 {
		quiet, other := newStorm(t, seed, tally{}), newStorm(t, seed, tally{})
		for range 300 {
			quiet.step()
			other.step()
			other.callWrong()
			if !sameView(quiet.view(), other.view()) {
				t.Fatalf("%+v, and with wrong calls %+v", quiet.view(), other.view())
			}
		}
	}
}

func (s *storm) callWrong() {
	s.t.Helper()
	for _, replica := range []int{-1, s.n} {
		s.answers(api.ErrArg, s.Campaign(replica), s.Submit(replica, hi), s.Crash(replica))
	}
	for _, k := range []int{-1, len(s.Net())} {
		s.answers(api.ErrArg, s.Deliver(k), s.Lose(k), s.Double(k))
	}
	for replica := range s.n {
		s.answers(api.ErrArg, s.Submit(replica, nothing))
		role, _ := s.Role(replica)
		log, _ := s.Log(replica)
		if role.Kind != api.Leading {
			s.answers(api.ErrLeader, s.Submit(replica, hi))
		} else if len(log) > 0 && log[0] != nothing {
			s.answers(api.ErrAgain, s.Submit(replica, log[0]))
		}
	}
}

func (s *storm) answers(want api.Errno, all ...api.Errno) {
	s.t.Helper()
	for i, e := range all {
		if e != want {
			s.t.Fatalf("wrong call %d = %d, want %d", i, e, want)
		}
	}
}

// What a Campaign without room would begin anew goes on as it was.
func TestErrNetChangesNothing(t *testing.T) {
	r := voteUnderWay(t)
	r.pass(api.Promise, 1, 2)
	r.swell(api.MaxNet)
	r.refusesCampaign(2, api.ErrNet)
	r.refusesDouble(0, api.ErrNet)
	r.lose(199)
	r.lose(198)
	r.come(api.Promise, 2, 2, proposals(3, 2, 18, 0, hi)...)
	r.checkLeading(2, 18, 1)
}
