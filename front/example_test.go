package front_test

import (
	"testing"

	"coxswain/api"
	"coxswain/front"
)

// The chapter's examples.
func TestExamples(t *testing.T) {
	const a, b, c = 1, 2, 3
	h := fresh(t)
	h.waits(3, 1, a)
	h.waits(3, 2, b)
	h.Applied(entry(3, 2), result(5))
	h.takes(whose(b, 3, 5))
	h.len(0)
	h.reads(c, 1)
	h.Ready(1, 5)
	h.Reads(storeAt(4))
	h.takes()
	h.Reads(storeAt(6))
	h.takes(sees(c, 6))
	h.len(0)
}

// The document's example 3: a call waits at the leader for its entry; at another server it waits for the leader's answer.
func TestACallThatIsPassedOn(t *testing.T) {
	leader, other := fresh(t), fresh(t)
	caller := front.Who{Client: 2, Req: 7, Cmd: api.Cmd{Op: 3, Client: 2, Req: 7}}
	number, e := other.Pass(caller)
	if number != 1 || e != ok {
		t.Fatalf("Pass: %d, %v", number, e)
	}
	sender := front.Who{From: 2, Ctx: number, Client: 2, Req: 7, Cmd: caller.Cmd}
	if e := leader.Wait(4, 1, sender); e != ok {
		t.Fatalf("Wait: %v", e)
	}
	r := api.Result{Value: 1}
	leader.Applied(api.Entry{Index: 4, Term: 1, Cmd: caller.Cmd}, r)
	leader.takes(front.Done{Who: sender, Index: 4, Result: r})
	other.Passed(sender.Ctx, r)
	other.takes(front.Done{Who: caller, Result: r})
	leader.len(0)
	other.len(0)
}

// P18.1: New is nobody: nobody waits, nothing is done, and one New has nothing of another one.
func TestNew(t *testing.T) {
	h := fresh(t)
	h.full(false, false, false)
	h.len(0)
	h.takes()
	h.waits(1, 1, 1)
	h.reads(2, 1)
	h.passes(3, 1)
	h.len(3)
	other := fresh(t)
	other.full(false, false, false)
	other.len(0)
	other.Applied(entry(1, 1), result(1))
	other.Ready(1, 1)
	other.Reads(storeAt(9))
	other.Passed(1, result(1))
	other.takes()
	h.takes()
	h.len(3)
}
