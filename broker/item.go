package broker

import "coxswain/api"

// item is an evaluation that the broker knows, by its job.
type item struct {
	eval   api.Eval
	count  int  // how often it was handed out since it came, or since it was put off
	delay  int  // how many Ticks it is still put off
	taken  bool // whether a worker has it; no worker's number can say that none has, for it may be any
	worker int  // who has it, if one has
	ticks  int  // for how many the worker has it, if one has
}

// free tells whether it may be had.
func (i *item) free() bool { return !i.taken && i.delay == 0 }

// Less tells whether it is handed out ahead of another one. No two are equal, for no two are of one job.
func (i *item) Less(other *item) bool {
	a, b := i.eval, other.eval
	if a.Priority != b.Priority {
		return a.Priority > b.Priority
	}
	if a.Index != b.Index {
		return a.Index < b.Index
	}
	return a.Job < b.Job
}
