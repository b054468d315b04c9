package replica

import (
	"plenum/api"
	"plenum/batch"
	"plenum/clock"
	"plenum/exec"
	"plenum/marks"
	"plenum/replies"
	"plenum/slot"
	"plenum/txn"
)

const workers = 4

// attend lets the clock run while transactions wait.
func (p *Replica) attend() {
	switch {
	case p.changing:
	case len(p.queue) == 0:
		p.clock, _ = clock.Stop(p.clock)
	case !p.clock.On:
		p.clock, _ = clock.Start(p.clock)
	}
}

// propose proposes what waits, as long as this replica may.
func (p *Replica) propose() {
	for p.leads() && p.isActive(p.next) {
		l := p.unproposed()
		if len(l) == 0 || !p.proposeBatch(l) {
			return
		}
	}
}

// unproposed returns the first transactions of the queue that were not proposed in this view.
func (p *Replica) unproposed() []api.Txn {
	var l []api.Txn
	for _, t := range p.queue {
		if len(l) < api.PerBatch && p.proposed[t.Client] != t.Time {
			l = append(l, t)
		}
	}
	return l
}

// proposeBatch proposes a batch at the next number; false, if there is no room to say it.
func (p *Replica) proposeBatch(l []api.Txn) bool {
	body := string(batch.Encode(l))
	number, e := p.table.Of(body)
	if e != api.OK || !p.tell(api.ToAll, api.Stmt{Kind: api.SayPrePrepare, View: p.view, Seq: p.next, Term: number}, body) {
		return false
	}
	p.take(p.next, number, body)
	for _, t := range l {
		p.proposed[t.Client] = t.Time
	}
	p.next++
	return true
}

// take lets a slot take a proposal of this view; false, if it can't.
func (p *Replica) take(seq, number int, body string) bool {
	s, e := slot.Propose(p.slots[seq], p.view, number, body)
	if e != api.OK {
		return false
	}
	p.slots[seq] = s
	return true
}

// prepare adds the replica's own vote to those that prepare a slot's proposal.
func (p *Replica) prepare(seq int) {
	s, e := slot.Prepare(p.slots[seq], p.vote(seq))
	if e == api.OK {
		p.slots[seq] = s
		p.tell(api.ToAll, api.Stmt{Kind: api.SayPrepare, View: s.View, Seq: seq, Term: s.Term}, "")
	}
}

// examine does what a slot's new state asks for.
func (p *Replica) examine(seq int) {
	if slot.Prepared(p.slots[seq], p.n) {
		p.certify(seq)
		p.commit(seq)
	}
	p.execute()
}

// certify keeps the certificate of a slot that is prepared, unless there is one of as late a view.
func (p *Replica) certify(seq int) {
	s := p.slots[seq]
	if c, ok := p.certs[seq]; !ok || c.View < s.View {
		p.certs[seq] = api.Cert{Seq: seq, View: s.View, Term: s.Term, Body: s.Body, Voices: slot.Voices(s, seq, p.n)}
	}
}

// commit adds the replica's own vote to those that commit a slot's proposal.
func (p *Replica) commit(seq int) {
	s, e := slot.Commit(p.slots[seq], p.vote(seq))
	if e == api.OK {
		p.slots[seq] = s
		p.tell(api.ToAll, api.Stmt{Kind: api.SayCommit, View: s.View, Seq: seq, Term: s.Term}, "")
	}
}

// vote returns the replica's own vote for a slot's proposal.
func (p *Replica) vote(seq int) api.Vote {
	s := p.slots[seq]
	return api.Vote{From: p.me, View: s.View, Term: s.Term}
}

// execute executes what it can.
func (p *Replica) execute() {
	for slot.Committed(p.slots[p.seq+1], p.n) {
		p.executeBatch(p.slots[p.seq+1].Body)
	}
	p.attend()
	p.propose()
}

// executeBatch executes the batch at the next number.
func (p *Replica) executeBatch(body string) {
	l, results := p.run(body)
	p.seq++
	p.log = append(p.log, api.Done{Seq: p.seq, Body: body})
	for i, t := range l {
		p.postResult(t, results[i])
	}
	p.forget()
	p.clock, _ = clock.Reset(p.clock)
	p.clock, _ = clock.Stop(p.clock)
	if marks.Due(p.seq) {
		p.takeCheckpoint()
	}
}

// run runs the fresh transactions of a batch, and returns them with their results. What is no batch has none.
func (p *Replica) run(body string) ([]api.Txn, []api.Result) {
	l, _ := batch.Decode([]byte(body))
	fresh, _ := replies.Fresh(p.replies, l)
	after, results, _, e := exec.Run(p.store, fresh, workers, nil)
	if e != api.OK {
		return nil, nil
	}
	table, e := replies.All(p.replies, fresh, results)
	if e != api.OK {
		return nil, nil
	}
	p.store, p.replies = after, table
	return fresh, results
}

// forget drops from the queue what is done.
func (p *Replica) forget() {
	if q, e := batch.Drop(p.queue, p.replies); e == api.OK {
		p.queue = q
	}
}

// postResult reports a result to its client.
func (p *Replica) postResult(t api.Txn, r api.Result) {
	body := string(txn.EncodeResult(r))
	number, e := p.table.Of(body)
	if e == api.OK {
		p.tell(p.n+t.Client, api.Stmt{Kind: api.SayReply, View: t.Client, Seq: t.Time, Term: number}, body)
	}
}
