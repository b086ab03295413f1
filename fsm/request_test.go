package fsm_test

import (
	"math"
	"slices"
	"testing"

	"coxswain/api"
)

// cluster is a run with the nodes 1 and 2, a service 1 and a system job 3.
func cluster(t *testing.T) *run {
	r := begin(t)
	r.ok(register(node(1, 1)), register(node(2, 1)), submit(job(1, service, 2)), submit(job(3, system, 1)))
	return r
}

// requests are the three commands that are requests.
func requests() []api.Cmd {
	return []api.Cmd{submit(job(2, batch, 1)), cancel(1), drain(2, true)}
}

// badRequests are the same three, each refused for its own reason.
func badRequests() []api.Cmd {
	return []api.Cmd{submit(job(2, batch)), cancel(9), drain(3, true)}
}

// P11.2: ErrArg ahead of all else, unless Client is 1 to MaxClients and Req 1 to MaxNumber; nothing is noted.
func TestRequestsOfWrongNumbers(t *testing.T) {
	r := cluster(t)
	r.ok(by(1, 9, submit(job(1, service, 1))))
	for _, c := range append(requests(), badRequests()...) {
		for _, client := range []int{-1, -2, -4, 5, 6, 100, 257, 1 << 32, 1<<32 + 1, maxNumber, math.MinInt, math.MaxInt} {
			for _, req := range []int{1, 2, 10, 0, -1, maxNumber} {
				r.refuses(by(client, req, c), errArg)
			}
		}
		for _, req := range []int{0, -1, -9, maxNumber + 1, maxNumber + 9, 1 << 60, math.MinInt, math.MaxInt} {
			for client := 1; client <= 4; client++ {
				r.refuses(by(client, req, c), errArg)
			}
		}
	}
}

// P11.2: what a client asks is done once, and noted; the same again is answered the same, whatever is asked with it; an older one is ErrOld.
func TestRequestsAreDoneOnce(t *testing.T) {
	for _, c := range requests() {
		for client := 1; client <= 4; client++ {
			r := cluster(t)
			answer := r.apply(by(client, 5, c))
			if answer.Code != ok {
				t.Fatalf("%+v: %+v", c, answer)
			}
			if want := []api.Seen{{Client: client, Req: 5, Answer: answer}}; !slices.EqualFunc(r.s.Seen, want, alike[api.Seen]) {
				t.Fatalf("%+v was noted of %+v", r.s.Seen, c)
			}
			for _, other := range slices.Concat(requests(), badRequests(), []api.Cmd{c, c}) {
				r.does(by(client, 5, other), answer, nil)
				for _, req := range []int{4, 1, 2} {
					r.refuses(by(client, req, other), errOld)
				}
				r.refuses(by(client, 0, other), errArg)
			}
		}
	}
}

// P11.2: a refusal is noted too, and told once more when the same would be done by now.
func TestRefusedRequests(t *testing.T) {
	r := begin(t)
	r.does(by(2, 1, cancel(1)), code(errNoJob), func(s *api.Store) {
		s.Seen = []api.Seen{{Client: 2, Req: 1, Answer: code(errNoJob)}}
	})
	r.does(by(1, 3, drain(1, true)), code(errNode), func(s *api.Store) {
		s.Seen = []api.Seen{{Client: 1, Req: 3, Answer: code(errNode)}, {Client: 2, Req: 1, Answer: code(errNoJob)}}
	})
	r.does(by(4, 1, submit(api.Job{})), code(errJob), func(s *api.Store) {
		s.Seen = append(s.Seen, api.Seen{Client: 4, Req: 1, Answer: code(errJob)})
	})
	r.ok(register(node(1, 1)), submit(job(1, service, 1)))
	r.refuses(by(2, 1, cancel(1)), errNoJob)
	r.refuses(by(1, 3, drain(1, true)), errNode)
	r.refuses(by(4, 1, submit(job(2, service, 1))), errJob)
	r.does(by(2, 2, cancel(9)), code(errNoJob), func(s *api.Store) {
		s.Seen[1] = api.Seen{Client: 2, Req: 2, Answer: code(errNoJob)}
	})
	r.refuses(by(2, 1, cancel(1)), errOld)
}

// P11.2: of each client the last request is noted, by itself; Req goes up to MaxNumber, with gaps; Seen rises by Client.
func TestEachClientBySelf(t *testing.T) {
	r := begin(t)
	version := 0
	last := map[int]api.Seen{}
	for _, x := range [][2]int{{3, 1}, {1, 7}, {4, 1}, {2, maxNumber - 1}, {1, 8}, {3, 2}, {2, maxNumber}, {4, maxNumber}, {1, 100}, {1, 1 << 39}} {
		version++
		last[x[0]] = api.Seen{Client: x[0], Req: x[1], Answer: value(version)}
		r.does(by(x[0], x[1], submit(job(1, batch, 1))), value(version), func(s *api.Store) {
			s.Seen = listed(last)
			s.Jobs = []api.Job{job(1, batch, 1)}
			s.Jobs[0].Version = version
			s.Evals = []api.Eval{{Job: 1, Priority: 50, State: evalPending, Index: s.Index}}
		})
		for client, seen := range last {
			r.does(by(client, seen.Req, cancel(1)), seen.Answer, nil)
			if seen.Req > 1 {
				r.refuses(by(client, seen.Req-1, cancel(1)), errOld)
			}
		}
	}
	r.refuses(by(2, maxNumber+1, cancel(1)), errArg)
}

// P11.2: with Client 0 it is done each time, whatever Req is, and nothing is noted.
func TestNobodysRequests(t *testing.T) {
	r := begin(t)
	r.ok(by(1, 9, submit(job(1, batch, 1))))
	version := 1
	for _, req := range append([]int{9, 9, 8}, farNumbers()...) {
		version++
		r.does(by(0, req, submit(job(1, batch, 1))), value(version), func(s *api.Store) {
			s.Jobs[0].Version = version
			r.pending(s, 1)
		})
		r.refuses(by(0, req, cancel(2)), errNoJob)
		r.refuses(by(0, req, drain(1, true)), errNode)
	}
}

// P11.2: Client and Req of other commands are not looked at, and nothing is noted of them.
func TestNoRequests(t *testing.T) {
	for _, client := range []int{1, 2, 4, 5, -1, math.MinInt, math.MaxInt} {
		for _, req := range []int{1, 0, 9, -1, maxNumber + 1, math.MinInt, math.MaxInt} {
			r := cluster(t)
			r.ok(by(1, 9, drain(2, false)), by(2, 9, drain(2, false)), submit(job(1, service, 1)))
			seen := plain(r.s, false).Seen
			r.ok(by(client, req, api.Cmd{Op: cmdNop}), by(client, req, api.Cmd{Op: cmdConf}))
			r.ok(by(client, req, register(node(4, 1))))
			r.ok(by(client, req, r.plan(1, at(0, 0, 1))))
			r.ok(by(client, req, r.says(1, api.Report{Alloc: 1, State: allocRunning})))
			r.ok(by(client, req, r.falls(4)))
			r.ok(submit(job(1, service, 2)), by(client, req, revert(1, 3)))
			r.refuses(by(client, req, revert(9, 2)), errNoJob)
			r.refuses(by(client, req, api.Cmd{Op: 11}), errOp)
			r.refuses(by(client, req, api.Cmd{Op: cmdPlan}), errPlan)
			r.refuses(by(client, req, beat(1, 1, 0)), errArg)
			r.refuses(by(client, req, down(3, 1, 0)), errNode)
			if !slices.EqualFunc(r.s.Seen, seen, alike[api.Seen]) {
				t.Fatalf("Client %d, Req %d: %+v", client, req, r.s.Seen)
			}
		}
	}
}

// R4: an answer that is told once more is in memory of its own, also one with a list, as no entry makes it.
func TestAnswersOnceMoreAreNew(t *testing.T) {
	r := cluster(t)
	answer := api.Result{Code: errPart, Value: 7, Allocs: []api.Alloc{{ID: 1}, {ID: 2}}}
	r.byHand(func(s *api.Store) { s.Seen = []api.Seen{{Client: 3, Req: 4, Answer: answer}} })
	r.does(by(3, 4, cancel(1)), answer, nil)
}
