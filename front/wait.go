package front

import "coxswain/api"

// entryWait is one that waits for the entry of an index and a term.
type entryWait struct {
	index int
	term  int
	who   Who
}

// readWait is one that waits for a read. Index 0, and less, may be told as well, so that ready must be kept beside it.
type readWait struct {
	ctx   int
	ready bool
	index int
	who   Who
}

// sees tells whether a store that has applied so much may be told.
func (x readWait) sees(index int) bool { return x.ready && x.index <= index }

// notOver are the allocations of a store that are not over, in a list of their own.
func notOver(s api.Store) []api.Alloc {
	var out []api.Alloc
	for _, a := range s.Allocs {
		if a.State < api.AllocDone {
			out = append(out, a)
		}
	}
	return out
}

// copyWho, copyResult and copyList make new memory at every depth: what is handed in is not kept, and what is told is the caller's own.
func copyWho(w Who) Who {
	c := &w.Cmd
	c.Job.Groups = copyList(c.Job.Groups)
	c.Reports = copyList(c.Reports)
	c.Plan.Stops = copyList(c.Plan.Stops)
	c.Plan.Places = copyList(c.Plan.Places)
	c.Conf.Voters = copyList(c.Conf.Voters)
	c.Conf.Learners = copyList(c.Conf.Learners)
	return w
}

func copyResult(r api.Result) api.Result {
	r.Allocs = copyList(r.Allocs)
	return r
}

// copyList begins with nil, so that not even an empty list leads back to the memory of the one that it copies.
func copyList[T any](list []T) []T {
	return append([]T(nil), list...)
}
