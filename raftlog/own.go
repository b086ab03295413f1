package raftlog

import "coxswain/api"

// copyEntries, copyEntry and copyList make new memory at every depth: what a caller does with what it handed in or was answered is not seen in the log.
func copyEntries(entries []api.Entry) []api.Entry {
	out := copyList(entries)
	for i := range out {
		out[i] = copyEntry(out[i])
	}
	return out
}

func copyEntry(x api.Entry) api.Entry {
	c := &x.Cmd
	c.Job.Groups = copyList(c.Job.Groups)
	c.Reports = copyList(c.Reports)
	c.Plan.Stops = copyList(c.Plan.Stops)
	c.Plan.Places = copyList(c.Plan.Places)
	c.Conf.Voters = copyList(c.Conf.Voters)
	c.Conf.Learners = copyList(c.Conf.Learners)
	return x
}

// copyList begins with nil, so that not even an empty list leads back to the memory of the one that it copies.
func copyList[T any](list []T) []T {
	return append([]T(nil), list...)
}
