package raft

// read is one that waits for its round to be answered.
type read struct {
	Ready
	round int
}

// tellReads tells those whose round a majority has answered. Who answered one answered all ahead of it, so behind the first that waits on all do.
func (r *Raft) tellReads() {
	told := 0
	for _, x := range r.reads {
		if !r.majority(func(o *other) bool { return o.round >= x.round }) {
			break
		}
		r.tellRead(x.Ready)
		told++
	}
	r.reads = append([]read(nil), r.reads[told:]...)
}
