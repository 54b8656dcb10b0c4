// Package synod: one order of posts, by votes: see DOC.md.
package synod

import (
	"strings"

	"synod/api"
	"synod/mail"
	"synod/replica"
	"synod/wire"
)

// Synod has replicas and a net.
type Synod struct {
	replicas []*replica.Replica
	net      mail.Net
}

// Pack writes a message as bytes (P3).
func Pack(m api.Message) (string, api.Errno) { return wire.Pack(m) }

// Unpack reads a message (P3).
func Unpack(s string) (api.Message, api.Errno) { return wire.Unpack(s) }

// New makes a synod (P4).
func New(n int) (*Synod, api.Errno) {
	if n < 1 || n > api.MaxReplicas || n%2 == 0 {
		return nil, api.ErrArg
	}
	s := &Synod{}
	for number := range n {
		s.replicas = append(s.replicas, replica.New(number, n, &s.net))
	}
	return s, api.OK
}

// find gives nil, if there is no such replica.
func (s *Synod) find(number int) *replica.Replica {
	if number < 0 || number >= len(s.replicas) {
		return nil
	}
	return s.replicas[number]
}

// Campaign lets a replica campaign (P4).
func (s *Synod) Campaign(replica int) api.Errno {
	r := s.find(replica)
	if r == nil {
		return api.ErrArg
	}
	return r.Campaign()
}

// Submit lets a replica propose a post (P5).
func (s *Synod) Submit(replica int, p api.Post) api.Errno {
	r := s.find(replica)
	if r == nil || !wire.RightPost(p) {
		return api.ErrArg
	}
	// A copy, so that a short text does not hold on to the whole string of which it is a piece.
	p.Text = strings.Clone(p.Text)
	return r.Submit(p)
}

// Net tells the messages that are on their way (P6).
func (s *Synod) Net() []api.Message { return s.net.List() }

// Deliver lets a message come (P6).
func (s *Synod) Deliver(k int) api.Errno {
	m, ok := s.net.Take(k)
	if !ok {
		return api.ErrArg
	}
	s.replicas[m.To].Receive(m)
	return api.OK
}

// Lose loses a message (P6).
func (s *Synod) Lose(k int) api.Errno {
	if _, ok := s.net.Take(k); !ok {
		return api.ErrArg
	}
	return api.OK
}

// Double doubles a message (P6).
func (s *Synod) Double(k int) api.Errno { return s.net.Double(k) }

// Crash lets a replica forget (P7).
func (s *Synod) Crash(replica int) api.Errno {
	r := s.find(replica)
	if r == nil {
		return api.ErrArg
	}
	r.Crash()
	return api.OK
}

// Log tells what is decided (P8).
func (s *Synod) Log(replica int) ([]api.Post, api.Errno) {
	r := s.find(replica)
	if r == nil {
		return nil, api.ErrArg
	}
	return r.Log(), api.OK
}

// Chat tells a channel's posts (P8).
func (s *Synod) Chat(replica int, channel int) ([]api.Post, api.Errno) {
	r := s.find(replica)
	if r == nil || channel < 0 || channel >= api.Channels {
		return nil, api.ErrArg
	}
	return r.Chat(channel), api.OK
}

// Role tells how a replica stands (P8).
func (s *Synod) Role(replica int) (api.Role, api.Errno) {
	r := s.find(replica)
	if r == nil {
		return api.Role{}, api.ErrArg
	}
	return r.Role(), api.OK
}
