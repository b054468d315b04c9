package replica

import (
	"cmp"
	"slices"

	"plenum/api"
	"plenum/ints"
	"plenum/marks"
	"plenum/parcel"
	"plenum/replies"
	"plenum/root"
)

// takeCheckpoint states which state the replica has.
func (p *Replica) takeCheckpoint() {
	number, e := p.stateTerm()
	if e == api.OK && p.tell(api.ToAll, api.Stmt{Kind: api.SayCheckpoint, Seq: p.seq, Term: number}, "") {
		p.enterMark(api.Mark{From: p.me, Seq: p.seq, Term: number})
	}
}

// stateTerm returns the term of the state.
func (p *Replica) stateTerm() (int, api.Errno) {
	m, e := parcel.Of(p.table, p.store)
	if e != api.OK {
		return 0, e
	}
	manifest, e := parcel.Number(p.table, m)
	if e != api.OK {
		return 0, e
	}
	answers, e := p.table.Of(string(replies.Encode(p.replies)))
	if e != api.OK {
		return 0, e
	}
	return p.table.List([]int{manifest, answers})
}

// enterMark enters a mark; false, if it is refused.
func (p *Replica) enterMark(x api.Mark) bool {
	m, stable, e := marks.Say(p.marks, x, p.n)
	if e != api.OK {
		return false
	}
	if !stable {
		p.marks = m
		return true
	}
	proof := append(marks.Voices(p.marks, x.Seq, x.Term), api.Stmt{From: x.From, Kind: api.SayCheckpoint, Seq: x.Seq, Term: x.Term})
	slices.SortFunc(proof, func(a, b api.Stmt) int { return cmp.Compare(a.From, b.From) })
	p.proof = proof
	p.marks = m
	p.advance()
	return true
}

// advance leaves behind what is not above the low number, and takes over the state there if the replica has not come so far.
func (p *Replica) advance() {
	low := p.marks.Low
	for seq := range p.slots {
		if seq <= low {
			delete(p.slots, seq)
		}
	}
	for seq := range p.certs {
		if seq <= low {
			delete(p.certs, seq)
		}
	}
	p.next = max(p.next, low+1)
	if p.seq < low {
		p.takeOver(low)
	}
}

// takeOver takes over the state of the root of the marks, if it exists.
func (p *Replica) takeOver(low int) {
	l := p.list(p.marks.Root)
	if len(l) != 2 {
		return
	}
	s, e := p.storeOf(p.list(l[0]))
	if e != api.OK {
		return
	}
	text, e := p.table.Text(l[1])
	if e != api.OK {
		return
	}
	table, e := replies.Decode([]byte(text))
	if e != api.OK {
		return
	}
	p.store, p.replies, p.seq = s, table, low
	p.forget()
}

// storeOf returns the store whose manifest has these numbers.
func (p *Replica) storeOf(l []int) (api.Store, api.Errno) {
	if len(l) != 3+api.Buckets {
		return api.Store{}, api.ErrForm
	}
	c := api.Crate{M: api.Manifest{Ver: l[0], Bytes: l[1], Keys: l[2]}}
	copy(c.M.Leaves[:], l[3:])
	for b, n := range c.M.Leaves {
		ver, chunks, e := root.Chunks(p.table, n)
		if e != api.OK {
			return api.Store{}, e
		}
		// the strings of this parcel have their terms already, so that none is assigned here
		if c, e = parcel.Take(c, p.table, api.Parcel{Bucket: b, Ver: ver, Chunks: chunks}); e != api.OK {
			return api.Store{}, e
		}
	}
	return parcel.Done(c)
}

// list returns the integers of the list that has a term; none, if no list has it.
func (p *Replica) list(number int) []int {
	text, e := p.table.Text(number)
	if e != api.OK {
		return nil
	}
	l, _ := ints.Split(text)
	return l
}
