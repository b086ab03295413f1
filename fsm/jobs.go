package fsm

import (
	"slices"

	"coxswain/api"
	"coxswain/spec"
	"coxswain/store"
)

func (m *machine) submit(c api.Cmd) api.Result {
	j, version := c.Job, 1
	if e := spec.Job(j); e != api.OK {
		return refused(e)
	}
	if at := store.Job(m.Store, j.ID); at >= 0 {
		was := m.Jobs[at]
		if was.Type != j.Type || was.Version >= api.MaxNumber {
			return refused(api.ErrJob)
		}
		version = was.Version + 1
	} else if len(m.Jobs) >= api.MaxJobs {
		return refused(api.ErrFull)
	}
	m.setJob(j, version)
	if j.Type == api.JobService {
		m.deploy(j.ID, version)
	}
	m.evaluate(j.ID)
	return done(version)
}

func (m *machine) cancel(c api.Cmd) api.Result {
	at := store.Job(m.Store, c.Job.ID)
	if at < 0 {
		return refused(api.ErrNoJob)
	}
	m.Jobs[at].Stopped = true
	if d := store.Deploy(m.Store, c.Job.ID); d >= 0 && m.Deploys[d].State == api.DeployRunning {
		m.Deploys[d].State = api.DeployFailed
	}
	m.evaluate(c.Job.ID)
	return done(0)
}

func (m *machine) revert(c api.Cmd) api.Result {
	at := store.Job(m.Store, c.Job.ID)
	if at < 0 {
		return refused(api.ErrNoJob)
	}
	j, d := m.Jobs[at], m.runningDeploy(c.Job.ID, c.Job.Version)
	if j.Version != c.Job.Version || d < 0 {
		return refused(api.ErrOld)
	}
	version := j.Version
	if back := store.Stable(m.Store, j.ID); back >= 0 && !sameWish(m.Stable[back], j) {
		if version >= api.MaxNumber {
			return refused(api.ErrOld)
		}
		version++
		m.setJob(m.Stable[back], version)
		m.deploy(j.ID, version)
	} else {
		m.Deploys[d].State = api.DeployFailed
	}
	m.evaluate(j.ID)
	return done(version)
}

// sameWish tells whether two versions of a job ask for the same: going back from one to the other would change nothing.
func sameWish(a, b api.Job) bool {
	return a.Type == b.Type && a.Priority == b.Priority && a.Parallel == b.Parallel && slices.Equal(a.Groups, b.Groups)
}

// setJob makes a version of a job the job.
func (m *machine) setJob(j api.Job, version int) {
	j = copyJob(j)
	j.Version, j.Stopped = version, false
	m.Jobs = put(m.Jobs, j, jobID)
}

func jobID(j api.Job) int { return j.ID }

// copyJob is a job with groups of its own: a job shares none with its stable version, nor with the command that brought it.
func copyJob(j api.Job) api.Job {
	j.Groups = slices.Clone(j.Groups)
	return j
}
