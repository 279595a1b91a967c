package cluster

import (
	"penstock/api"
	"penstock/client"
	"penstock/disk"
	"penstock/node"
)

// party is who takes messages, and has a clock: a node, or a client.
type party interface {
	handle(m api.Msg) []api.Msg
	tick(draw uint64) []api.Msg
	news() []api.Seen // what it has seen since it was asked last
}

// host is where a node is started, again and again: on its disk.
type host struct {
	id     int
	config api.Config
	disk   *disk.Disk
	node   *node.Node // nil: it is down
}

// newHost has its node started for the first time.
func newHost(id int, c api.Config) *host {
	h := &host{id: id, config: c, disk: disk.New()}
	h.start()
	return h
}

// start starts the node; one that can't be started is down.
func (h *host) start() {
	h.node, _ = node.Open(h.id, h.config, h.disk)
}

// rise starts the node once more, on what is left of its disk.
func (h *host) rise(left int) {
	h.disk.Crash(left)
	h.start()
}

// crash lets the node break: behind so many bytes more, or at once.
func (h *host) crash(bytes int) {
	if bytes < 0 {
		h.node = nil
	} else {
		h.disk.Arm(bytes)
	}
}

func (h *host) handle(m api.Msg) []api.Msg {
	return h.did(h.node.Handle(m))
}

func (h *host) tick(draw uint64) []api.Msg {
	return h.did(h.node.Tick(draw))
}

// did looks whether the node's disk has broken: then it is down.
func (h *host) did(out []api.Msg) []api.Msg {
	if h.node.Broken() {
		h.node = nil
	}
	return out
}

// news: a node sees nothing.
func (h *host) news() []api.Seen {
	return nil
}

// user is a client, and how much of what it has seen was told.
type user struct {
	client *client.Client
	told   int
}

func newUser(number int, c api.Config) *user {
	u := &user{}
	u.client, _ = client.New(number, c)
	return u
}

func (u *user) handle(m api.Msg) []api.Msg {
	return u.client.Handle(m)
}

// tick: clients draw nothing.
func (u *user) tick(uint64) []api.Msg {
	return u.client.Tick()
}

func (u *user) news() []api.Seen {
	list := u.client.Trace()[u.told:]
	u.told += len(list)
	return list
}

func (u *user) ended() bool {
	_, _, ended := u.client.State()
	return ended
}
