package raft

import (
	"slices"

	"coxswain/api"
	"coxswain/conf"
)

// change is a CmdConf of the log.
type change struct {
	index int
	conf  api.Conf
}

// changes are those of the log, behind a first one: what holds ahead of the log's entries, with no index above the base's. They stand beside the log so that nobody must go through all entries for the last one.
type changes []change

func (l changes) last() change {
	return l[len(l)-1]
}

// upTo is the servers of the log up to an index.
func (l changes) upTo(index int) api.Conf {
	i := len(l) - 1
	for i > 0 && l[i].index > index {
		i--
	}
	return l[i].conf
}

// with has those of entries, too, which take the place of all from the first one's index on.
func (l changes) with(entries []api.Entry) changes {
	for len(entries) > 0 && len(l) > 1 && l.last().index >= entries[0].Index {
		l = l[:len(l)-1]
	}
	for i := range entries {
		if entries[i].Cmd.Op == api.CmdConf {
			l = append(l, change{index: entries[i].Index, conf: copyConf(entries[i].Cmd.Conf)})
		}
	}
	return l
}

// behind are those above an index, where these servers hold.
func (l changes) behind(index int, c api.Conf) changes {
	out := changes{{index: index, conf: c}}
	for _, x := range l[1:] {
		if x.index > index {
			out = append(out, x)
		}
	}
	return out
}

// between tells whether there is one above an index, and not above another one.
func (l changes) between(from, to int) bool {
	return slices.ContainsFunc(l, func(x change) bool { return x.index > from && x.index <= to })
}

// servers is those of now; the list is the server's own, to be read alone.
func (r *Raft) servers() api.Conf {
	return r.changes.last().conf
}

func (r *Raft) isVoter() bool {
	return conf.Voter(r.servers(), r.id)
}

func (r *Raft) isMember(s int) bool {
	return slices.Contains(conf.Members(r.servers()), s)
}

func (r *Raft) otherMembers() []int {
	return slices.DeleteFunc(conf.Members(r.servers()), func(s int) bool { return s == r.id })
}

// other is what it knows of a server. A CmdConf that came from elsewhere may name ones that can't be: they never answer, so at the place 0 stands the little that is known of each of them.
func (r *Raft) other(s int) *other {
	if s < 1 || s > api.MaxServers {
		return &r.others[0]
	}
	return &r.others[s]
}

// majority tells whether this server and those of which a thing holds are one.
func (r *Raft) majority(holds func(o *other) bool) bool {
	yes := []int{r.id}
	for s := 1; s <= api.MaxServers; s++ {
		if holds(&r.others[s]) {
			yes = append(yes, s)
		}
	}
	return conf.Majority(r.servers(), yes)
}

func (r *Raft) isMajorityAlone() bool {
	return r.majority(func(*other) bool { return false })
}

// copyConf makes new memory, of empty lists too.
func copyConf(c api.Conf) api.Conf {
	return api.Conf{Voters: copyList(c.Voters), Learners: copyList(c.Learners)}
}

func copySnapshot(s api.Snapshot) api.Snapshot {
	s.Conf = copyConf(s.Conf)
	s.Data = copyList(s.Data)
	return s
}

// copyList begins with nil, so that not even an empty list leads back to the memory of the one that it copies.
func copyList[T any](list []T) []T {
	return append([]T(nil), list...)
}
