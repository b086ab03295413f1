package fsm

import (
	"coxswain/api"
	"coxswain/store"
)

// deploy begins a version's deployment.
func (m *machine) deploy(job, version int) {
	d := api.Deploy{Job: job, Version: version, State: api.DeployRunning, Index: m.Index}
	m.Deploys = put(m.Deploys, d, func(d api.Deploy) int { return d.Job })
	m.lookAtDeploys()
}

// lookAtDeploys ends the deployments all of whose slots run.
func (m *machine) lookAtDeploys() {
	for i := range m.Deploys {
		d := &m.Deploys[i]
		at := store.Job(m.Store, d.Job)
		if d.State != api.DeployRunning || at < 0 || m.Jobs[at].Version != d.Version {
			continue
		}
		if all, run := store.Slots(m.Store, d.Job); run == all {
			d.State = api.DeployDone
			m.Stable = put(m.Stable, copyJob(m.Jobs[at]), jobID)
		}
	}
}

// runningDeploy is the place of a job's deployment to a version, if it is running; else -1.
func (m *machine) runningDeploy(job, version int) int {
	at := store.Deploy(m.Store, job)
	if at < 0 || m.Deploys[at].State != api.DeployRunning || m.Deploys[at].Version != version {
		return -1
	}
	return at
}
