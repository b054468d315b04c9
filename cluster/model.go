package cluster

import (
	"plenum/api"
	"plenum/batch"
	"plenum/exec"
	"plenum/replies"
)

// Model returns the store and the replies that result from the log of a replica that has executed all batches itself.
func (c *Cluster) Model(p int) (api.Store, []api.Last, bool) {
	r, ok := c.Replica(p)
	if !ok {
		return api.Store{}, nil, false
	}
	log := r.Log()
	if len(log) != r.Seq() {
		return api.Store{}, nil, false
	}
	s := c.first
	var done []api.Last
	for i, x := range log {
		if x.Seq != i+1 {
			return api.Store{}, nil, false
		}
		s, done = execute(s, done, x.Body)
	}
	return s, done, true
}

// execute returns the store and the replies after a batch, serially executed. What is no batch changes nothing.
func execute(s api.Store, done []api.Last, body string) (api.Store, []api.Last) {
	l, _ := batch.Decode([]byte(body))
	fresh, _ := replies.Fresh(done, l)
	after, results, e := exec.Serial(s, fresh)
	if e != api.OK {
		return s, done
	}
	table, e := replies.All(done, fresh, results)
	if e != api.OK {
		return s, done
	}
	return after, table
}
