package synod_test

import (
	"math"
	"slices"
	"strings"
	"testing"

	"synod/api"
	"synod/synod"
)

var (
	small = api.Post{Client: 1, Seq: 1}
	great = api.Post{Client: 9, Seq: 1000, Channel: 3, Text: "twelve bytes"}
	hi    = api.Post{Client: 2, Seq: 258, Channel: 1, Text: "hi"}
)

const (
	smallBytes = "\x01\x01\x00\x00\x00"
	greatBytes = "\x09\xe8\x03\x03\x0ctwelve bytes"
	hiBytes    = "\x02\x02\x01\x01\x02hi"
)

type packed struct {
	name string
	m    api.Message
	s    string
}

func sameMessage(a, b api.Message) bool {
	return a.Kind == b.Kind && a.From == b.From && a.To == b.To && a.Ballot == b.Ballot &&
		a.Slot == b.Slot && a.Value == b.Value && slices.Equal(a.Accepted, b.Accepted)
}

// rightOnes has each kind, and each part at its edges, with bytes worked out by hand from P3.
func rightOnes() []packed {
	return append([]packed{
		{"the document's Prepare", api.Message{Kind: api.Prepare, From: 1, To: 2, Ballot: 9}, "\x01\x01\x02\x09\x00"},
		{"the document's Propose", api.Message{Kind: api.Propose, Ballot: 8, Slot: 3, Value: hi}, "\x03\x00\x00\x08\x00\x03\x02\x02\x01\x01\x02\x68\x69"},
		{"Prepare, From and To 0, Ballot 1", api.Message{Kind: api.Prepare, Ballot: 1}, "\x01\x00\x00\x01\x00"},
		{"Prepare, From and To 6, Ballot 8007", api.Message{Kind: api.Prepare, From: 6, To: 6, Ballot: 8007}, "\x01\x06\x06\x47\x1f"},
		{"Prepare, Ballot 255", api.Message{Kind: api.Prepare, Ballot: 255}, "\x01\x00\x00\xff\x00"},
		{"Prepare, Ballot 256", api.Message{Kind: api.Prepare, Ballot: 256}, "\x01\x00\x00\x00\x01"},
		{"Promise, nothing accepted", api.Message{Kind: api.Promise, From: 2, To: 1, Ballot: 9}, "\x02\x02\x01\x09\x00\x00"},
		{"Promise, no Accepted but room for it", api.Message{Kind: api.Promise, Ballot: 9, Accepted: make([]api.Vote, 0, 4)}, "\x02\x00\x00\x09\x00\x00"},
		{"Promise, one vote at the low edges", api.Message{Kind: api.Promise, Ballot: 8, Accepted: []api.Vote{{Slot: 0, Ballot: 1}}}, "\x02\x00\x00\x08\x00\x01\x00\x01\x00\x00"},
		{"Promise, one vote at the high edges", api.Message{Kind: api.Promise, Ballot: 8, Accepted: []api.Vote{{Slot: 15, Ballot: 8007, Value: great}}}, "\x02\x00\x00\x08\x00\x01\x0f\x47\x1f" + greatBytes},
		{"Promise, votes with a gap", api.Message{Kind: api.Promise, Ballot: 9, Accepted: []api.Vote{{Slot: 2, Ballot: 300, Value: hi}, {Slot: 7, Ballot: 8}, {Slot: 8, Ballot: 8, Value: small}}}, "\x02\x00\x00\x09\x00\x03\x02\x2c\x01" + hiBytes + "\x07\x08\x00\x00\x08\x08\x00" + smallBytes},
		{"Propose, nothing, Slot 15", api.Message{Kind: api.Propose, Ballot: 8, Slot: 15}, "\x03\x00\x00\x08\x00\x0f\x00"},
		{"Propose, the small post, Slot 0", api.Message{Kind: api.Propose, From: 3, To: 4, Ballot: 8, Value: small}, "\x03\x03\x04\x08\x00\x00" + smallBytes},
		{"Propose, the great post", api.Message{Kind: api.Propose, Ballot: 8, Slot: 1, Value: great}, "\x03\x00\x00\x08\x00\x01" + greatBytes},
		{"Accept, Slot 0", api.Message{Kind: api.Accept, From: 5, To: 6, Ballot: 14}, "\x04\x05\x06\x0e\x00\x00"},
		{"Accept, Slot 15", api.Message{Kind: api.Accept, Ballot: 8007, Slot: 15}, "\x04\x00\x00\x47\x1f\x0f"},
		{"Decide, nothing, Slot 0", api.Message{Kind: api.Decide}, "\x05\x00\x00\x00\x00"},
		{"Decide, the great post, Slot 15", api.Message{Kind: api.Decide, From: 6, Slot: 15, Value: great}, "\x05\x06\x00\x0f" + greatBytes},
		{"Decide, a text that is no UTF-8", api.Message{Kind: api.Decide, Value: api.Post{Client: 3, Seq: 255, Channel: 2, Text: "\x00\xff\x80"}}, "\x05\x00\x00\x00\x03\xff\x00\x02\x03\x00\xff\x80"},
		{"Decide, Seq 256", api.Message{Kind: api.Decide, Value: api.Post{Client: 3, Seq: 256}}, "\x05\x00\x00\x00\x03\x00\x01\x00\x00"},
		{"Refuse, Ballot 1", api.Message{Kind: api.Refuse, To: 6, Ballot: 1}, "\x06\x00\x06\x01\x00"},
		{"Refuse, Ballot 8007", api.Message{Kind: api.Refuse, From: 6, Ballot: 8007}, "\x06\x06\x00\x47\x1f"},
	}, allSlots())
}

func allSlots() packed {
	m := api.Message{Kind: api.Promise, Ballot: 8007}
	s := "\x02\x00\x00\x47\x1f\x10"
	for slot := range api.Slots {
		m.Accepted = append(m.Accepted, api.Vote{Slot: slot, Ballot: 256 + slot, Value: great})
		s += string([]byte{byte(slot), byte(slot), 1}) + greatBytes
	}
	return packed{"Promise, all slots", m, s}
}

func TestPackAndUnpackRight(t *testing.T) {
	for _, c := range rightOnes() {
		if s, e := synod.Pack(c.m); s != c.s || e != api.OK {
			t.Errorf("%s: Pack = %q, %d, want %q", c.name, s, e, c.s)
		}
		if m, e := synod.Unpack(c.s); !sameMessage(m, c.m) || e != api.OK {
			t.Errorf("%s: Unpack = %+v, %d, want %+v", c.name, m, e, c.m)
		}
	}
}

func TestEveryBallotAndSeq(t *testing.T) {
	for n := range 1 << 16 {
		low, high := byte(n), byte(n>>8)
		ballot := api.Message{Kind: api.Prepare, Ballot: n}
		checkEither(t, ballot, string([]byte{1, 0, 0, low, high}), 1 <= n && n <= 8007)
		seq := api.Message{Kind: api.Decide, Value: api.Post{Client: 1, Seq: n}}
		checkEither(t, seq, string([]byte{5, 0, 0, 0, 1, low, high, 0, 0}), 1 <= n && n <= 1000)
	}
}

func TestEveryByte(t *testing.T) {
	for n := range 1 << 8 {
		b := byte(n)
		vote := []api.Vote{{Slot: n, Ballot: 8}}
		text := strings.Repeat("x", n)
		checkEither(t, api.Message{Kind: api.Prepare, From: n, Ballot: 8}, string([]byte{1, b, 0, 8, 0}), n <= 6)
		checkEither(t, api.Message{Kind: api.Prepare, To: n, Ballot: 8}, string([]byte{1, 0, b, 8, 0}), n <= 6)
		checkEither(t, api.Message{Kind: api.Accept, Ballot: 8, Slot: n}, string([]byte{4, 0, 0, 8, 0, b}), n <= 15)
		checkEither(t, api.Message{Kind: api.Promise, Ballot: 8, Accepted: vote}, string([]byte{2, 0, 0, 8, 0, 1, b, 8, 0, 0}), n <= 15)
		checkEither(t, api.Message{Kind: api.Decide, Value: api.Post{Client: n, Seq: 1}}, string([]byte{5, 0, 0, 0, b, 1, 0, 0, 0}), 1 <= n && n <= 9)
		checkEither(t, api.Message{Kind: api.Decide, Value: api.Post{Client: 1, Seq: 1, Channel: n}}, string([]byte{5, 0, 0, 0, 1, 1, 0, b, 0}), n <= 3)
		checkEither(t, api.Message{Kind: api.Decide, Value: api.Post{Client: 1, Seq: 1, Text: text}}, string([]byte{5, 0, 0, 0, 1, 1, 0, 0, b})+text, n <= 12)
	}
}

// checkEither: m and s are each other's, if right; else neither call takes its own.
func checkEither(t *testing.T, m api.Message, s string, right bool) {
	t.Helper()
	if !right {
		checkPackRefuses(t, "out of bounds", m)
		checkUnpackRefuses(t, "out of bounds", s)
		return
	}
	if got, e := synod.Pack(m); got != s || e != api.OK {
		t.Errorf("Pack(%+v) = %q, %d, want %q", m, got, e, s)
	}
	if got, e := synod.Unpack(s); !sameMessage(got, m) || e != api.OK {
		t.Errorf("Unpack(%q) = %+v, %d, want %+v", s, got, e, m)
	}
}

func checkPackRefuses(t *testing.T, name string, m api.Message) {
	t.Helper()
	if s, e := synod.Pack(m); s != "" || e != api.ErrWire {
		t.Errorf("%s: Pack(%+v) = %q, %d, want ErrWire", name, m, s, e)
	}
}

func checkUnpackRefuses(t *testing.T, name, s string) {
	t.Helper()
	if m, e := synod.Unpack(s); !sameMessage(m, api.Message{}) || e != api.ErrWire {
		t.Errorf("%s: Unpack(%q) = %+v, %d, want ErrWire", name, s, m, e)
	}
}

// sparest gives of each kind a right message in which all is 0 that may be.
func sparest() []api.Message {
	return []api.Message{
		{Kind: api.Prepare, Ballot: 8}, {Kind: api.Promise, Ballot: 8}, {Kind: api.Propose, Ballot: 8},
		{Kind: api.Accept, Ballot: 8}, {Kind: api.Decide}, {Kind: api.Refuse, Ballot: 8},
	}
}

// outside: numbers that no field takes; some of them have right low bytes.
var outside = []int{-1, 8008, 1<<16 + 1, 1<<32 + 1, 1<<40 + 8, -1 << 16, math.MaxInt, math.MinInt}

func TestPackRefusesNumbersOutside(t *testing.T) {
	for _, n := range outside {
		for _, m := range sparest() {
			for _, field := range []*int{&m.Kind, &m.From, &m.To, &m.Ballot, &m.Slot, &m.Value.Client, &m.Value.Seq, &m.Value.Channel} {
				kept := *field
				*field = n
				checkPackRefuses(t, "outside", m)
				*field = kept
			}
		}
	}
}

func TestPackRefusesPostsOutside(t *testing.T) {
	for _, kind := range []api.Message{{Kind: api.Propose, Ballot: 8}, {Kind: api.Decide}} {
		for _, p := range wrongPosts() {
			m := kind
			m.Value = p
			checkPackRefuses(t, "wrong value", m)
		}
	}
	for _, p := range wrongPosts() {
		checkPackRefuses(t, "wrong value in a vote", api.Message{Kind: api.Promise, Ballot: 8, Accepted: []api.Vote{{Slot: 1, Ballot: 8, Value: p}}})
	}
}

func wrongPosts() []api.Post {
	posts := []api.Post{
		{Client: 10, Seq: 1}, {Client: -1, Seq: 1}, {Client: 1}, {Client: 1, Seq: 1001}, {Client: 1, Seq: -1},
		{Client: 1, Seq: 1, Channel: 4}, {Client: 1, Seq: 1, Channel: -1}, {Client: 1, Seq: 1, Text: "thirteen byte"},
		{Client: 1, Seq: 1, Text: strings.Repeat("x", 256)}, {Client: 1, Seq: 1, Text: "sechs Wörter"},
		{Seq: 1}, {Channel: 1}, {Text: "x"}, {Seq: 1, Channel: 1, Text: "x"},
	}
	for _, n := range outside {
		posts = append(posts, api.Post{Client: n, Seq: 1}, api.Post{Client: 1, Seq: n}, api.Post{Client: 1, Seq: 1, Channel: n})
	}
	return posts
}

func TestPackRefusesWhatTheKindHasNot(t *testing.T) {
	for _, c := range []struct {
		name string
		m    api.Message
	}{
		{"the empty message", api.Message{}},
		{"kind 0 with a Ballot", api.Message{Ballot: 8}},
		{"kind 7", api.Message{Kind: 7, Ballot: 8}},
		{"Prepare without Ballot", api.Message{Kind: api.Prepare}},
		{"Prepare with Slot", api.Message{Kind: api.Prepare, Ballot: 8, Slot: 1}},
		{"Prepare with Value", api.Message{Kind: api.Prepare, Ballot: 8, Value: hi}},
		{"Prepare with Accepted", api.Message{Kind: api.Prepare, Ballot: 8, Accepted: []api.Vote{{Ballot: 8}}}},
		{"Promise without Ballot", api.Message{Kind: api.Promise}},
		{"Promise with Slot", api.Message{Kind: api.Promise, Ballot: 8, Slot: 1}},
		{"Promise with Value", api.Message{Kind: api.Promise, Ballot: 8, Value: hi}},
		{"Propose without Ballot", api.Message{Kind: api.Propose, Value: hi}},
		{"Propose with Slot 16", api.Message{Kind: api.Propose, Ballot: 8, Slot: 16}},
		{"Propose with Accepted", api.Message{Kind: api.Propose, Ballot: 8, Value: hi, Accepted: []api.Vote{{Ballot: 8}}}},
		{"Accept without Ballot", api.Message{Kind: api.Accept, Slot: 1}},
		{"Accept with Slot 16", api.Message{Kind: api.Accept, Ballot: 8, Slot: 16}},
		{"Accept with Value", api.Message{Kind: api.Accept, Ballot: 8, Value: hi}},
		{"Accept with Accepted", api.Message{Kind: api.Accept, Ballot: 8, Accepted: []api.Vote{{Ballot: 8}}}},
		{"Decide with Ballot", api.Message{Kind: api.Decide, Ballot: 8}},
		{"Decide with Slot 16", api.Message{Kind: api.Decide, Slot: 16}},
		{"Decide with Accepted", api.Message{Kind: api.Decide, Accepted: []api.Vote{{Ballot: 8}}}},
		{"Refuse without Ballot", api.Message{Kind: api.Refuse}},
		{"Refuse with Slot", api.Message{Kind: api.Refuse, Ballot: 8, Slot: 1}},
		{"Refuse with Value", api.Message{Kind: api.Refuse, Ballot: 8, Value: hi}},
		{"Refuse with an empty vote", api.Message{Kind: api.Refuse, Ballot: 8, Accepted: make([]api.Vote, 1)}},
	} {
		checkPackRefuses(t, c.name, c.m)
	}
}

func TestPackRefusesVotes(t *testing.T) {
	for _, votes := range [][]api.Vote{
		make([]api.Vote, 1),
		{{Slot: 1}},
		{{Slot: 1, Ballot: 8008}},
		{{Slot: 1, Ballot: -1}},
		{{Slot: 16, Ballot: 8}},
		{{Slot: -1, Ballot: 8}},
		{{Slot: 1, Ballot: 8}, {Slot: 1, Ballot: 8}},
		{{Slot: 0, Ballot: 8}, {Slot: 0, Ballot: 9}},
		{{Slot: 2, Ballot: 8}, {Slot: 1, Ballot: 8}},
		{{Slot: 2, Ballot: 8}, {Slot: 5, Ballot: 8}, {Slot: 3, Ballot: 8}},
		append(slices.Clone(allSlots().m.Accepted), api.Vote{Slot: 16, Ballot: 8}),
		append(slices.Clone(allSlots().m.Accepted), api.Vote{Slot: 15, Ballot: 8}),
		make([]api.Vote, 256),
		make([]api.Vote, 1<<16),
	} {
		checkPackRefuses(t, "votes", api.Message{Kind: api.Promise, Ballot: 8, Accepted: votes})
	}
}

func TestUnpackRefusesCutAndLengthened(t *testing.T) {
	for _, c := range rightOnes() {
		for k := range len(c.s) {
			checkUnpackRefuses(t, c.name+", cut", c.s[:k])
		}
		for b := range 256 {
			checkUnpackRefuses(t, c.name+", a byte more", c.s+string([]byte{byte(b)}))
		}
		checkUnpackRefuses(t, c.name+", twice", c.s+c.s)
	}
}

func TestUnpackRefuses(t *testing.T) {
	for _, c := range []struct{ name, s string }{
		{"no byte", ""},
		{"kind 0", "\x00\x00\x00"},
		{"kind 0 with a Ballot", "\x00\x00\x00\x08\x00"},
		{"kind 7", "\x07\x00\x00\x08\x00"},
		{"kind 255", "\xff\x00\x00\x08\x00"},
		{"From 7", "\x01\x07\x00\x08\x00"},
		{"To 7", "\x01\x00\x07\x08\x00"},
		{"Ballot 0", "\x01\x00\x00\x00\x00"},
		{"Ballot 8008", "\x06\x00\x00\x48\x1f"},
		{"Slot 16", "\x04\x00\x00\x08\x00\x10"},
		{"Client 10", "\x05\x00\x00\x00\x0a\x01\x00\x00\x00"},
		{"Seq 0", "\x05\x00\x00\x00\x01\x00\x00\x00\x00"},
		{"Seq 1001", "\x05\x00\x00\x00\x01\xe9\x03\x00\x00"},
		{"Channel 4", "\x05\x00\x00\x00\x01\x01\x00\x04\x00"},
		{"a Text of 13 bytes", "\x05\x00\x00\x00\x01\x01\x00\x00\x0dthirteen byte"},
		{"nothing written as a post", "\x05\x00\x00\x00\x00\x00\x00\x00\x00"},
		{"a vote of Ballot 0", "\x02\x00\x00\x08\x00\x01\x00\x00\x00\x00"},
		{"a vote of Ballot 8008", "\x02\x00\x00\x08\x00\x01\x00\x48\x1f\x00"},
		{"a vote of Slot 16", "\x02\x00\x00\x08\x00\x01\x10\x08\x00\x00"},
		{"a vote of Client 10", "\x02\x00\x00\x08\x00\x01\x00\x08\x00\x0a\x01\x00\x00\x00"},
		{"one Slot twice", "\x02\x00\x00\x08\x00\x02\x01\x08\x00\x00\x01\x08\x00\x00"},
		{"Slots that fall", "\x02\x00\x00\x08\x00\x02\x02\x08\x00\x00\x01\x08\x00\x00"},
		{"17 votes", "\x02\x00\x00\x08\x00\x11" + strings.Repeat("\x00\x08\x00\x00", 17)},
		{"255 votes that are not there", "\x02\x00\x00\x08\x00\xff"},
		{"255 votes", "\x02\x00\x00\x08\x00\xff" + strings.Repeat("\x00\x08\x00\x00", 255)},
		{"much of it", strings.Repeat("\x02\x00\x00\x08\x00\xff", 1<<16)},
	} {
		checkUnpackRefuses(t, c.name, c.s)
	}
}

// One byte of a right message is changed to each other: what Unpack still takes must be the Pack of what it gives.
func TestUnpackTakesOnlyWhatPackWrites(t *testing.T) {
	for _, c := range rightOnes() {
		for k := range len(c.s) {
			for b := range 256 {
				changed := []byte(c.s)
				changed[k] = byte(b)
				checkTaken(t, string(changed))
			}
		}
	}
}

func checkTaken(t *testing.T, s string) {
	t.Helper()
	m, e := synod.Unpack(s)
	if e != api.OK {
		checkUnpackRefuses(t, "changed", s)
		return
	}
	if back, e := synod.Pack(m); back != s || e != api.OK {
		t.Errorf("Unpack(%q) = %+v, of which Pack is %q, %d", s, m, back, e)
	}
}

func TestPackWritesIntoNothing(t *testing.T) {
	spare := api.Vote{Slot: 77, Ballot: 77, Value: hi}
	backing := []api.Vote{{Slot: 3, Ballot: 8, Value: hi}, {Slot: 4, Ballot: 9}, spare, spare, spare}
	before := slices.Clone(backing)
	right := api.Message{Kind: api.Promise, Ballot: 9, Accepted: backing[:2]}
	wrong := api.Message{Kind: api.Promise, Ballot: 9, Accepted: backing[:3]}
	for _, m := range []api.Message{right, wrong} {
		synod.Pack(m)
		if !slices.Equal(backing, before) {
			t.Fatalf("Pack(%+v) wrote into what it was handed: %+v", m, backing)
		}
	}
}

func TestPackKeepsNothing(t *testing.T) {
	votes := []api.Vote{{Slot: 3, Ballot: 8, Value: hi}}
	m := api.Message{Kind: api.Promise, Ballot: 9, Accepted: votes}
	first, _ := synod.Pack(m)
	votes[0] = api.Vote{Slot: 5, Ballot: 10}
	second, _ := synod.Pack(m)
	if first != "\x02\x00\x00\x09\x00\x01\x03\x08\x00"+hiBytes || second != "\x02\x00\x00\x09\x00\x01\x05\x0a\x00\x00" {
		t.Errorf("Pack ahead of and behind a change: %q, %q", first, second)
	}
}

func TestUnpackGivesFreshLists(t *testing.T) {
	for _, c := range rightOnes() {
		first, _ := synod.Unpack(c.s)
		second, _ := synod.Unpack(c.s)
		overwrite(first.Accepted)
		third, _ := synod.Unpack(c.s)
		overwrite(first.Accepted)
		if !sameMessage(second, c.m) || !sameMessage(third, c.m) {
			t.Errorf("%s: written into one list, others changed: %+v, %+v", c.name, second, third)
		}
		overwrite(second.Accepted)
		if !sameMessage(third, c.m) {
			t.Errorf("%s: written into one list, a later one changed: %+v", c.name, third)
		}
	}
}

// overwrite writes into a list and its spare room.
func overwrite(votes []api.Vote) {
	room := votes[:cap(votes)]
	for i := range room {
		room[i] = api.Vote{Slot: 77, Ballot: 77, Value: hi}
	}
}

func TestAnswersHangOnArgumentsAlone(t *testing.T) {
	for _, a := range rightOnes() {
		for _, b := range rightOnes() {
			synod.Pack(b.m)
			synod.Unpack(b.s)
			synod.Pack(api.Message{})
			synod.Unpack(b.s[:len(b.s)-1])
			s, e1 := synod.Pack(a.m)
			m, e2 := synod.Unpack(a.s)
			if s != a.s || e1 != api.OK || !sameMessage(m, a.m) || e2 != api.OK {
				t.Fatalf("%s behind %s: Pack = %q, %d, Unpack = %+v, %d", a.name, b.name, s, e1, m, e2)
			}
		}
	}
}
