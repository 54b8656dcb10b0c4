// Package mail: the net, which has the messages that are on their way.
package mail

import (
	"slices"

	"synod/api"
)

// Net has at most api.MaxNet messages; the zero Net is empty.
type Net struct {
	messages []api.Message
}

// Room tells whether n messages more have room.
func (net *Net) Room(n int) bool {
	return len(net.messages)+n <= api.MaxNet
}

// Put lays a message behind the others; a full net loses it.
func (net *Net) Put(m api.Message) {
	if net.Room(1) {
		net.messages = append(net.messages, m)
	}
}

// Take takes message k out; false, if there is none.
func (net *Net) Take(k int) (api.Message, bool) {
	if !net.has(k) {
		return api.Message{}, false
	}
	m := net.messages[k]
	net.messages = slices.Delete(net.messages, k, k+1)
	return m, true
}

// Double puts message k once more behind all others (P6).
func (net *Net) Double(k int) api.Errno {
	switch {
	case !net.has(k):
		return api.ErrArg
	case !net.Room(1):
		return api.ErrNet
	}
	// The two may have one list of votes: nobody writes into it, and List gives copies out.
	net.Put(net.messages[k])
	return api.OK
}

func (net *Net) has(k int) bool {
	return k >= 0 && k < len(net.messages)
}

// List copies the lists within messages too, for the caller may write into them.
func (net *Net) List() []api.Message {
	list := slices.Clone(net.messages)
	for i := range list {
		list[i].Accepted = slices.Clone(list[i].Accepted)
	}
	return list
}
