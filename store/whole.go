package store

import (
	"slices"

	"coxswain/api"
)

// Copy is a store in memory of its own.
func Copy(s api.Store) api.Store {
	s.Jobs, s.Stable = copyJobs(s.Jobs), copyJobs(s.Stable)
	s.Nodes = slices.Clone(s.Nodes)
	s.Allocs = slices.Clone(s.Allocs)
	s.Evals = slices.Clone(s.Evals)
	s.Deploys = slices.Clone(s.Deploys)
	s.Seen = slices.Clone(s.Seen)
	for i := range s.Seen {
		answer := &s.Seen[i].Answer
		answer.Allocs = slices.Clone(answer.Allocs)
	}
	return s
}

// Same tells whether two are the same.
func Same(a, b api.Store) bool {
	return a.Index == b.Index && a.Next == b.Next &&
		slices.EqualFunc(a.Jobs, b.Jobs, sameJob) &&
		slices.EqualFunc(a.Stable, b.Stable, sameJob) &&
		slices.Equal(a.Nodes, b.Nodes) &&
		slices.Equal(a.Allocs, b.Allocs) &&
		slices.Equal(a.Evals, b.Evals) &&
		slices.Equal(a.Deploys, b.Deploys) &&
		slices.EqualFunc(a.Seen, b.Seen, sameSeen)
}

func sameJob(a, b api.Job) bool {
	return a.ID == b.ID && a.Type == b.Type && a.Priority == b.Priority && a.Parallel == b.Parallel &&
		slices.Equal(a.Groups, b.Groups) && a.Version == b.Version && a.Stopped == b.Stopped
}

func sameSeen(a, b api.Seen) bool {
	return a.Client == b.Client && a.Req == b.Req && a.Answer.Code == b.Answer.Code &&
		a.Answer.Value == b.Answer.Value && slices.Equal(a.Answer.Allocs, b.Answer.Allocs)
}

func copyJobs(jobs []api.Job) []api.Job {
	out := slices.Clone(jobs)
	for i := range out {
		out[i].Groups = slices.Clone(out[i].Groups)
	}
	return out
}
