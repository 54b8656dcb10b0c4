// Package synod: one order of posts, by votes: see DOC.md.
package synod

import (
	"synod/api"
	"synod/wire"
)

// Synod has replicas and a net.
type Synod struct{}

// Pack writes a message as bytes (P3).
func Pack(m api.Message) (string, api.Errno) { return wire.Pack(m) }

// Unpack reads a message (P3).
func Unpack(s string) (api.Message, api.Errno) { return wire.Unpack(s) }

// New makes a synod (P4).
func New(n int) (*Synod, api.Errno) { return nil, api.OK }

// Campaign lets a replica campaign (P4).
func (s *Synod) Campaign(replica int) api.Errno { return api.OK }

// Submit lets a replica propose a post (P5).
func (s *Synod) Submit(replica int, p api.Post) api.Errno { return api.OK }

// Net tells the messages that are on their way (P6).
func (s *Synod) Net() []api.Message { return nil }

// Deliver lets a message come (P6).
func (s *Synod) Deliver(k int) api.Errno { return api.OK }

// Lose loses a message (P6).
func (s *Synod) Lose(k int) api.Errno { return api.OK }

// Double doubles a message (P6).
func (s *Synod) Double(k int) api.Errno { return api.OK }

// Crash lets a replica forget (P7).
func (s *Synod) Crash(replica int) api.Errno { return api.OK }

// Log tells what is decided (P8).
func (s *Synod) Log(replica int) ([]api.Post, api.Errno) { return nil, api.OK }

// Chat tells a channel's posts (P8).
func (s *Synod) Chat(replica int, channel int) ([]api.Post, api.Errno) { return nil, api.OK }

// Role tells how a replica stands (P8).
func (s *Synod) Role(replica int) (api.Role, api.Errno) { return api.Role{}, api.OK }
