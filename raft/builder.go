package raft

import "coxswain/api"

// builder is what a call answers, as it grows; between calls it is empty.
type builder struct {
	out Out
}

func (b *builder) send(m api.Msg) {
	b.out.Msgs = append(b.out.Msgs, m)
}

// save says that something must be saved; what of it, the other calls say.
func (b *builder) save() {
	b.out.Save = true
}

func (b *builder) saveEntries(list []api.Entry) {
	b.save()
	b.out.Entries = list
}

func (b *builder) saveSnapshot(s api.Snapshot) {
	b.save()
	b.out.Snapshot = &s
}

func (b *builder) tellCommits(list []api.Entry) {
	b.out.Commits = append(b.out.Commits, list...)
}

func (b *builder) tellRead(x Ready) {
	b.out.Reads = append(b.out.Reads, x)
}

// answer hands out what there is. The hard state goes with all that is saved, but is told only then.
func (b *builder) answer(h api.Hard) Out {
	out := b.out
	b.out = Out{}
	if out.Save {
		out.Hard = h
	}
	return out
}
