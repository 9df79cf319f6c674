package world_test

import (
	"testing"

	"roundhouse/agent"
	"roundhouse/api"
	"roundhouse/ctl"
	"roundhouse/dag"
	"roundhouse/rec"
	"roundhouse/wire"
	"roundhouse/world"
)

// goes is the event of a step of job 1 that all hold.
func goes(step int) world.Event {
	return world.Event{Kind: world.Goes, Node: -1, Job: 1, Step: step}
}

// ends is the event of a step of job 1 that has a code.
func ends(step, code int) world.Event {
	return world.Event{Kind: world.Code, Node: -1, Job: 1, Step: step, Arg: code}
}

// in is an event, of another epoch.
func in(epoch int, e world.Event) world.Event {
	e.Epoch = epoch
	return e
}

// TestSeen has a job run from its beginning to its end.
func TestSeen(t *testing.T) {
	s := newStage(t, config(2), on([]int{0, 1}, step(), step(api.Edge{Step: 0, Kind: api.AfterNotOK})))
	s.sees()
	s.does(true, world.Op{Do: tick}, world.Op{Do: send})
	s.sees()
	s.does(true, world.Op{Do: deliver, A: 1})
	s.sees(wrote(rec.Prolog, 1, 0, 0))
	s.rounds(1)
	s.sees(wrote(rec.Prolog, 0, 0, 0))
	s.does(true, world.Op{Do: send})
	s.do(3, world.Op{Do: deliver})
	s.sees(wrote(rec.Held, 0, 0, 0), wrote(rec.Held, 1, 0, 0))
	s.does(true, world.Op{Do: deliver})
	s.sees(goes(0))
	s.rounds(2)
	s.sees(wrote(rec.Released, 0, 0, 0), wrote(rec.Released, 1, 0, 0))
	s.does(true, world.Op{Do: exit, C: 9}, world.Op{Do: exit, A: 1, C: 7}, world.Op{Do: exit, A: 1})
	s.sees(wrote(rec.Ended, 1, 0, 7))
	s.rounds(1)
	s.sees()
	s.does(true, world.Op{Do: exit})
	s.sees(wrote(rec.Ended, 0, 0, 9))
	s.rounds(1)
	s.sees(ends(0, 9))
	s.rounds(2)
	s.sees(wrote(rec.Held, 0, 1, 0), wrote(rec.Held, 1, 1, 0), goes(1), wrote(rec.Released, 0, 1, 0), wrote(rec.Released, 1, 1, 0))
	s.does(true, world.Op{Do: exit}, world.Op{Do: exit}, world.Op{Do: exit, A: 1}, world.Op{Do: exit, A: 1})
	s.sees(wrote(rec.Ended, 0, 1, 0), wrote(rec.Ended, 1, 1, 0))
	s.rounds(1)
	s.sees(ends(1, 0))
	s.rounds(2)
	s.sees(wrote(rec.Epilog, 0, 0, 0), wrote(rec.Epilog, 1, 0, 0))
	if s.known().Phase != ctl.Over {
		t.Errorf("P20.3: job %v", s.known())
	}
}

// TestSeenRefused has a node refuse a step that the others hold, and one that did not hear of it.
func TestSeenRefused(t *testing.T) {
	s := newStage(t, config(3), on([]int{0, 1, 2}, step(), step(api.Edge{Step: 0})))
	s.rounds(1)
	s.seen = len(s.Events())
	s.does(true, world.Op{Do: send}, world.Op{Do: deliver}, world.Op{Do: deliver, C: 1}, world.Op{Do: drop})
	s.sees(wrote(rec.Held, 0, 0, 0))
	s.does(true, world.Op{Do: deliver})
	s.sees()
	s.does(true, world.Op{Do: deliver})
	// Who waits for it is skipped at once, and told behind it.
	s.sees(ends(0, 255), ends(1, dag.Skipped))
	s.rounds(1)
	s.sees(
		wrote(rec.Aborted, 0, 0, 0), wrote(rec.Epilog, 0, 0, 0), wrote(rec.Refused, 1, 0, 0), wrote(rec.Epilog, 1, 0, 0),
		wrote(rec.Refused, 2, 0, 0), wrote(rec.Epilog, 2, 0, 0),
	)
	if s.known().Phase != ctl.Over {
		t.Errorf("P20.3: job %v", s.known())
	}
}

// TestSeenCancelled has a job's end asked, while some of its steps were not launched.
func TestSeenCancelled(t *testing.T) {
	wait := api.Edge{Step: 0, Kind: api.AfterAny}
	s := newStage(t, config(1), on([]int{0}, step(), step(wait), step(wait)), on([]int{0}, step()))
	s.rounds(3)
	s.seen = len(s.Events())
	s.does(true, world.Op{Do: cancel, A: 1})
	s.sees(ends(1, dag.Skipped), ends(2, dag.Skipped))
	s.does(true, world.Op{Do: cancel, A: 1})
	s.sees()
}

// TestSeenAgain has a job of which a prolog fails, in two epochs; the node that did not begin says so.
func TestSeenAgain(t *testing.T) {
	s := newStage(t, config(2), on([]int{0, 1}, step(), step()))
	s.does(true, world.Op{Do: send}, world.Op{Do: deliver, B: 4}, world.Op{Do: drop}, world.Op{Do: deliver})
	s.sees(wrote(rec.Prolog, 0, 0, 4))
	s.rounds(1)
	s.sees(wrote(rec.Epilog, 0, 0, 0), wrote(rec.Void, 1, 0, 0))
	if j := s.known(); j.Epoch != 1 || j.Phase != ctl.Starts {
		t.Errorf("P20.3: job %v", j)
	}
	// Node 0 takes no job any more, and writes nothing of it but its end.
	s.rounds(1)
	s.sees(in(1, wrote(rec.Prolog, 1, 0, 0)))
	s.rounds(1)
	s.sees(in(1, wrote(rec.Void, 0, 0, 0)), in(1, wrote(rec.Epilog, 1, 0, 0)))
}

// TestSeenCancelledAgain has a job's end asked that starts in another epoch: what it skips is of that one.
func TestSeenCancelledAgain(t *testing.T) {
	s := newStage(t, config(1), on([]int{0}, step()))
	s.does(true, world.Op{Do: cancel, A: 1})
	s.sees()
	s.rounds(1)
	// Nothing was launched, so that all is skipped once the job runs.
	s.sees(wrote(rec.Prolog, 0, 0, 0), ends(0, dag.Skipped))
}

// TestSeenInAnotherEpoch has a job run in its second epoch, as it was said, though not by its node, that the prolog failed.
func TestSeenInAnotherEpoch(t *testing.T) {
	s := newStage(t, config(1), on([]int{0}, step()))
	s.Net().Send([]string{wire.Encode(tells(api.MsgReady, 0, 0, 1))})
	s.does(true, world.Op{Do: deliver})
	s.rounds(3)
	s.sees(wrote(rec.Void, 0, 0, 0), in(1, wrote(rec.Prolog, 0, 0, 0)), in(1, wrote(rec.Held, 0, 0, 0)), in(1, goes(0)))
	s.rounds(1)
	s.does(true, world.Op{Do: exit, C: 8}, world.Op{Do: exit})
	s.rounds(2)
	s.sees(in(1, wrote(rec.Released, 0, 0, 0)), in(1, wrote(rec.Ended, 0, 0, 8)), in(1, ends(0, 8)), in(1, wrote(rec.Epilog, 0, 0, 0)))
}

// TestSeenTorn has a record that is torn seen once it is whole, and not once more.
func TestSeenTorn(t *testing.T) {
	s := newStage(t, config(1), on([]int{0}, step()))
	s.does(true, world.Op{Do: send}, world.Op{Do: tear, B: 5})
	s.sees()
	s.does(true, world.Op{Do: tick})
	s.does(true, world.Op{Do: bringUp}, world.Op{Do: send}, world.Op{Do: tear, B: most})
	s.sees(wrote(rec.Prolog, 0, 0, 0))
	s.does(true, world.Op{Do: bringUp}, world.Op{Do: crash}, world.Op{Do: bringUp})
	s.rounds(1)
	s.sees()
	s.rounds(1)
	s.sees(wrote(rec.Held, 0, 0, 0), goes(0))
}

// TestSeenElsewhere has nodes and the controller told things by others than the script: what they did ahead of an op is not seen.
func TestSeenElsewhere(t *testing.T) {
	fine := agent.Choice{Fail: -1, Tear: -1}
	s := newStage(t, config(2), on([]int{0, 1}, step()))
	for node := range 2 {
		s.Node(node).Deliver(wire.Encode(asks(api.MsgProlog, node, 0)), fine)
	}
	s.sees()
	s.does(true, world.Op{Do: tick}, world.Op{Do: crash})
	s.does(true, world.Op{Do: bringUp})
	s.sees()
	s.rounds(1)
	s.sees()
	s.does(true, world.Op{Do: send})
	s.do(2, world.Op{Do: deliver})
	s.sees(wrote(rec.Held, 0, 0, 0), wrote(rec.Held, 1, 0, 0))
	for node := range 2 {
		s.Ctl().Deliver(wire.Encode(tells(api.MsgVote, node, 0, 1)))
	}
	s.rounds(1)
	s.sees(wrote(rec.Released, 0, 0, 0), wrote(rec.Released, 1, 0, 0))
	for node := range 2 {
		s.Ctl().Deliver(wire.Encode(tells(api.MsgEnded, node, 0, node)))
	}
	s.does(true, world.Op{Do: tick})
	s.sees()
}

// TestSeenOfWhat has records with all their numbers seen.
func TestSeenOfWhat(t *testing.T) {
	s := newStage(t, config(3))
	for _, c := range []struct {
		ask  api.Msg
		code int
		want world.Event
	}{
		{api.Msg{Kind: api.MsgProlog, Job: 1 << 40, Epoch: 5}, 0, world.Event{Kind: rec.Prolog, Job: 1 << 40, Epoch: 5}},
		{api.Msg{Kind: api.MsgAbort, Job: 1 << 40, Epoch: 5, Step: 77}, 0, world.Event{Kind: rec.Refused, Job: 1 << 40, Epoch: 5, Step: 77}},
		{api.Msg{Kind: api.MsgFinish, Job: 1 << 40, Epoch: 5, Step: 7}, 9, world.Event{Kind: rec.Epilog, Job: 1 << 40, Epoch: 5, Arg: 9}},
		{api.Msg{Kind: api.MsgFinish, Job: 3, Epoch: 1 << 40}, 9, world.Event{Kind: rec.Void, Job: 3, Epoch: 1 << 40}},
	} {
		c.ask.From, c.ask.To, c.want.Node = -1, 2, 2
		s.Net().Send([]string{wire.Encode(c.ask)})
		s.does(true, world.Op{Do: deliver, A: -1, B: c.code})
		s.sees(c.want)
		s.Net().Drop(0)
	}
}
