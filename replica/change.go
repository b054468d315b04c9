package replica

import (
	"plenum/api"
	"plenum/batch"
	"plenum/choose"
	"plenum/clock"
	"plenum/marks"
	"plenum/quorum"
	"plenum/view"
)

// change begins to change to a view.
func (p *Replica) change(to int) {
	p.view, p.changing = to, true
	clear(p.proposed)
	c := p.ownChange()
	if s, e := view.ChangeStmt(p.table, c); e == api.OK && p.say(s) {
		p.last[p.me] = c
		p.post(api.ToAll, api.Msg{Kind: api.SayChange, View: to, Changes: []api.Change{c}})
	}
	p.clock, _ = clock.Stop(p.clock)
	p.clock, _ = clock.Start(p.clock)
	p.tryToLead()
}

// ownChange returns the replica's wish for its view.
func (p *Replica) ownChange() api.Change {
	c := api.Change{From: p.me, View: p.view, Stable: p.marks.Low}
	if c.Stable > 0 {
		c.Root, c.Proof = p.marks.Root, p.proof
	}
	for seq := c.Stable + 1; seq <= c.Stable+api.Ahead; seq++ {
		if x, ok := p.certs[seq]; ok {
			c.Certs = append(c.Certs, x)
		}
	}
	return c
}

// called returns the least of the later views that others call for, if those are enough.
func (p *Replica) called() (int, bool) {
	least, many := 0, 0
	for from := range p.n {
		c, ok := p.last[from]
		if !ok || from == p.me || c.View <= p.view {
			continue
		}
		if many == 0 || c.View < least {
			least = c.View
		}
		many++
	}
	return least, many >= quorum.Weak(p.n)
}

// tryToLead begins the view that the replica is changing to, if it is to lead it and enough others follow.
func (p *Replica) tryToLead() {
	if !p.changing || p.primary() != p.me {
		return
	}
	var l []api.Change
	for from := range p.n {
		if c, ok := p.last[from]; ok && c.View == p.view && len(l) < quorum.Strong(p.n) {
			l = append(l, c)
		}
	}
	if len(l) < quorum.Strong(p.n) {
		return
	}
	m := api.Msg{Kind: api.SayNewView, From: p.me, View: p.view, Changes: l}
	if s, e := view.NewStmt(p.table, m); e == api.OK && p.say(s) {
		p.post(api.ToAll, m)
		p.enter(l)
	}
}

// enter enters the view with changes that may be chosen from.
func (p *Replica) enter(l []api.Change) {
	low, root, e := choose.Low(l, p.n)
	if e != api.OK {
		return
	}
	choices, _ := choose.Choices(l, p.n)
	p.changing = false
	clear(p.proposed)
	p.clock, _ = clock.Stop(p.clock)
	if low > p.marks.Low {
		p.moveTo(low, root, l)
	}
	p.taken = low + len(choices)
	p.next = p.taken + 1
	for _, c := range choices {
		if p.isActive(c.Seq) {
			p.adopt(c)
		}
	}
	for _, c := range choices {
		if p.isActive(c.Seq) {
			p.examine(c.Seq)
		}
	}
	p.next = max(p.next, p.marks.Low+1)
	p.execute()
}

// moveTo moves to a stable checkpoint that one of the changes proves.
func (p *Replica) moveTo(low, root int, l []api.Change) {
	m, e := marks.Move(p.marks, low, root)
	if e != api.OK {
		return
	}
	for _, c := range l {
		if c.Stable == low {
			p.proof = c.Proof
			break
		}
	}
	p.marks = m
	p.advance()
}

// adopt takes over a choice, if the primary stands by it.
func (p *Replica) adopt(c api.Choice) {
	body := c.Body
	if c.Null {
		body = string(batch.Encode(nil))
	}
	number, e := p.table.Of(body)
	if e != api.OK {
		return
	}
	s := api.Stmt{From: p.primary(), Kind: api.SayPrePrepare, View: p.view, Seq: c.Seq, Term: number}
	if p.leads() {
		p.say(s)
	}
	if p.ring.Has(s) && p.take(c.Seq, number, body) && !p.leads() {
		p.prepare(c.Seq)
	}
}
