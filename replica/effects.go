package replica

import (
	"slices"

	"plenum/api"
	"plenum/batch"
	"plenum/replies"
	"plenum/slot"
	"plenum/txn"
	"plenum/view"
)

// effect returns what does the effect of a message of a kind, and reports whether the message is not dropped.
func (p *Replica) effect(kind int) func(api.Msg) bool {
	switch kind {
	case api.SayRequest:
		return p.onRequest
	case api.SayPrePrepare:
		return p.onPrePrepare
	case api.SayPrepare:
		return p.onPrepare
	case api.SayCommit:
		return p.onCommit
	case api.SayCheckpoint:
		return p.onCheckpoint
	case api.SayChange:
		return p.onChange
	case api.SayNewView:
		return p.onNewView
	}
	return func(api.Msg) bool { return false }
}

func (p *Replica) onRequest(m api.Msg) bool {
	t, e := txn.Decode([]byte(m.Body))
	if m.View != 0 || e != api.OK || m.From != p.n+t.Client || m.Seq != t.Time || !p.isTerm(m.Body, m.Term) || !p.ring.Has(stmt(m)) {
		return false
	}
	r, e := replies.Ask(p.replies, t.Client, t.Time)
	switch e {
	case api.OK:
		p.postResult(t, r)
		return true
	case api.ErrNone:
		return p.enqueue(t)
	}
	return false
}

// enqueue adds a new transaction to the queue; false, if it is refused.
func (p *Replica) enqueue(t api.Txn) bool {
	q, e := batch.Add(p.queue, t, p.replies)
	switch e {
	case api.OK:
		p.queue = q
		p.attend()
		p.propose()
		return true
	case api.ErrThere:
		return true
	}
	return false
}

func (p *Replica) onPrePrepare(m api.Msg) bool {
	if p.changing || m.View != p.view || m.From != p.primary() || m.From == p.me || m.Seq <= p.taken || !p.isActive(m.Seq) {
		return false
	}
	if !p.isTerm(m.Body, m.Term) || !p.ring.Has(stmt(m)) {
		return false
	}
	l, e := batch.Decode([]byte(m.Body))
	if e != api.OK || slices.ContainsFunc(l, func(t api.Txn) bool { return !p.wasRequested(t) }) {
		return false
	}
	if !p.take(m.Seq, m.Term, m.Body) {
		return false
	}
	p.prepare(m.Seq)
	p.examine(m.Seq)
	return true
}

// wasRequested reports whether a transaction was requested by its client, with exactly these bytes.
func (p *Replica) wasRequested(t api.Txn) bool {
	n, e := p.table.Of(string(txn.Encode(t)))
	return e == api.OK && p.ring.Has(api.Stmt{From: p.n + t.Client, Kind: api.SayRequest, Seq: t.Time, Term: n})
}

func (p *Replica) onPrepare(m api.Msg) bool {
	return p.onVote(m, slot.Prepare)
}

func (p *Replica) onCommit(m api.Msg) bool {
	return p.onVote(m, slot.Commit)
}

// onVote takes the vote of another replica into a slot by cast.
func (p *Replica) onVote(m api.Msg, cast func(api.Slot, api.Vote) (api.Slot, api.Errno)) bool {
	if p.changing || m.View != p.view || !p.isOther(m.From) || !p.isActive(m.Seq) || !p.ring.Has(stmt(m)) {
		return false
	}
	s, e := cast(p.slots[m.Seq], api.Vote{From: m.From, View: m.View, Term: m.Term})
	if e != api.OK {
		return false
	}
	p.slots[m.Seq] = s
	p.examine(m.Seq)
	return true
}

func (p *Replica) onCheckpoint(m api.Msg) bool {
	if !p.isOther(m.From) || m.View != 0 || !p.ring.Has(stmt(m)) {
		return false
	}
	return p.enterMark(api.Mark{From: m.From, Seq: m.Seq, Term: m.Term})
}

func (p *Replica) onChange(m api.Msg) bool {
	if len(m.Changes) != 1 {
		return false
	}
	c := m.Changes[0]
	if !view.Change(p.ring, p.table, c, p.n) || !p.isOther(m.From) || m.From != c.From || m.View != c.View || !p.isAhead(m.View) {
		return false
	}
	if was, ok := p.last[c.From]; ok && was.View >= c.View {
		return false
	}
	p.last[c.From] = c
	if v, ok := p.called(); ok {
		p.change(v)
	} else {
		p.tryToLead()
	}
	return true
}

func (p *Replica) onNewView(m api.Msg) bool {
	if _, e := view.NewView(p.ring, p.table, m, p.n); e != api.OK || m.From == p.me || !p.isAhead(m.View) {
		return false
	}
	p.view = m.View
	p.enter(m.Changes)
	return true
}

// isAhead reports whether the replica has not been in a view yet.
func (p *Replica) isAhead(view int) bool {
	return view > p.view || view == p.view && p.changing
}

// stmt returns the statement of a message that is neither a change nor a new view.
func stmt(m api.Msg) api.Stmt {
	return api.Stmt{From: m.From, Kind: m.Kind, View: m.View, Seq: m.Seq, Term: m.Term}
}
