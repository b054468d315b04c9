package cluster

import (
	"iter"

	"plenum/api"
)

// Do lets an event happen.
func (c *Cluster) Do(x api.Event) api.Errno {
	if e := c.check(x); e != api.OK {
		return e
	}
	switch x.Do {
	case api.EvAsk:
		l, e := c.clients[x.P].Ask(x.W, x.Source, x.Gas)
		c.keep(l)
		return e
	case api.EvArrive:
		c.arrive(x.K)
	case api.EvStray:
		c.keep(c.replicas[x.P].Handle(c.kept[x.K].M))
	case api.EvTick:
		c.keep(c.replicas[x.P].Tick())
	case api.EvRing:
		c.keep(c.clients[x.P].Tick())
	case api.EvSay:
		return c.ring.Say(x.P, x.S)
	case api.EvForge:
		c.keep(c.replicas[x.P].Handle(x.M))
	case api.EvSettle:
		c.settle()
	}
	return api.OK
}

// check returns the error of an event that may not happen.
func (c *Cluster) check(x api.Event) api.Errno {
	switch x.Do {
	case api.EvAsk, api.EvRing:
		if !c.isClient(x.P) {
			return api.ErrRange
		}
	case api.EvArrive:
		if !c.isKept(x.K) {
			return api.ErrRange
		}
	case api.EvStray:
		if !c.isKept(x.K) {
			return api.ErrRange
		}
		return c.checkReplica(x.P, false)
	case api.EvTick, api.EvForge:
		return c.checkReplica(x.P, false)
	case api.EvSay:
		return c.checkReplica(x.P, true)
	case api.EvSettle:
	default:
		return api.ErrArg
	}
	return api.OK
}

// checkReplica returns the error of a number that is no replica, or one that is bad or not unlike what is asked for.
func (c *Cluster) checkReplica(p int, bad bool) api.Errno {
	switch {
	case !c.isReplica(p):
		return api.ErrRange
	case c.ring.Bad(p) != bad:
		return api.ErrForged
	}
	return api.OK
}

// keep keeps posts, as long as there is room.
func (c *Cluster) keep(l []api.Post) {
	room := api.MaxKept - len(c.kept)
	l = l[:min(len(l), room)]
	c.kept = append(c.kept, l...)
	c.arrived = append(c.arrived, make([]bool, len(l))...)
}

// settle lets all posts arrive that have not, with those that are kept meanwhile.
func (c *Cluster) settle() {
	for k := 0; k < len(c.kept); k++ {
		if !c.arrived[k] {
			c.arrive(k)
		}
	}
}

// arrive lets the kept post k arrive.
func (c *Cluster) arrive(k int) {
	c.arrived[k] = true
	for p := range c.recipients(c.kept[k]) {
		c.hand(p, c.kept[k].M)
	}
}

// recipients gives the parties at which a post arrives, or would if they were there.
func (c *Cluster) recipients(x api.Post) iter.Seq[int] {
	return func(yield func(int) bool) {
		if x.To != api.ToAll {
			yield(x.To)
			return
		}
		for p := range c.replicas {
			if p != x.M.From && !yield(p) {
				return
			}
		}
	}
}

// hand hands a message to a party; nothing happens if it is a bad replica, or no party.
func (c *Cluster) hand(party int, m api.Msg) {
	if r, ok := c.Replica(party); ok {
		c.keep(r.Handle(m))
		return
	}
	k := party - len(c.replicas)
	x, ok := c.Client(k)
	if !ok {
		return
	}
	if accepted, _ := x.Handle(m); accepted {
		r, _ := x.Result()
		c.taken = append(c.taken, api.Last{Client: k, Time: x.Time(), R: r})
	}
}
