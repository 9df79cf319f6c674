package node

import (
	"slices"

	"roundhouse/api"
	"roundhouse/rec"
)

// question is what is asked: a message, to a node of that state, that found these facts. What is decided is its act.
type question struct {
	api.Msg
	rec.State
	Facts
	act Act
}

func (q *question) prolog() {
	job, is := q.job()
	switch {
	case is:
		q.tell(job)
	case q.isBehind():
		// The node is asked for what is over: the controller goes by a later epoch.
	case q.Drained:
		q.answer(api.MsgReady, 1)
	default:
		q.write(rec.Prolog, q.Code)
		q.answer(api.MsgReady, failed(q.Code))
	}
}

// tell answers how it stands with a job whose prolog was asked for ahead of this.
func (q *question) tell(job rec.Job) {
	switch job.Phase {
	case rec.JobUp:
		q.answer(api.MsgReady, 0)
	case rec.JobFailed:
		q.answer(api.MsgReady, 1)
	case rec.JobGone:
		q.answer(api.MsgGone, 0)
	}
}

func (q *question) launch() {
	step, is := q.step()
	switch {
	case is && step.Phase == rec.StepAborted:
		q.answer(api.MsgVote, 0)
	case is:
		q.answer(api.MsgVote, 1)
	case !q.isUp() || q.Cred != api.OK || len(q.Pids) == 0:
		q.answer(api.MsgVote, 0)
	default:
		q.write(rec.Held, 0)
		q.act.Rec.List = slices.Clone(q.Pids)
		q.answer(api.MsgVote, 1)
	}
}

func (q *question) release() {
	step, is := q.step()
	switch {
	case is && step.Phase == rec.StepHeld:
		q.write(rec.Released, 0)
		q.act.Start = true
	case is && step.Phase == rec.StepEnded:
		// Told again and again, as the message that told it first may be lost.
		q.answer(api.MsgEnded, step.Code)
	}
}

func (q *question) abort() {
	step, is := q.step()
	switch {
	case is && step.Phase == rec.StepHeld:
		q.write(rec.Aborted, 0)
		q.act.Kill = true
	case !is && q.isUp():
		// Written, so that a launch that comes late is refused.
		q.write(rec.Refused, 0)
	}
}

func (q *question) cancel() {
	step, is := q.step()
	q.act.Cancel = is && step.Phase == rec.StepRuns
}

func (q *question) finish() {
	job, is := q.job()
	switch {
	case is && job.Phase == rec.JobGone || !is && q.isBehind():
		q.answer(api.MsgGone, 0)
	case !is:
		// Written, so that a prolog that comes late does not begin the job.
		q.write(rec.Void, 0)
		q.answer(api.MsgGone, 0)
	case q.Busy || rec.Alive(q.State, q.Job, q.Epoch):
		// Its tasks are waited for; the controller asks again.
	default:
		q.write(rec.Epilog, q.Code)
		q.answer(api.MsgGone, failed(q.Code))
	}
}

// job is the job that is asked for.
func (q *question) job() (rec.Job, bool) {
	return rec.Find(q.State, q.Job, q.Epoch)
}

// step is the step that is asked for.
func (q *question) step() (rec.Step, bool) {
	return rec.StepOf(q.State, q.Job, q.Epoch, q.Step)
}

// isUp says whether the job is there, and up.
func (q *question) isUp() bool {
	job, is := q.job()
	return is && job.Phase == rec.JobUp
}

// isBehind says whether the node had the job in a later epoch than is asked for.
func (q *question) isBehind() bool {
	return slices.ContainsFunc(q.Jobs, func(x rec.Job) bool { return x.Job == q.Job && x.Epoch > q.Epoch })
}

// write has a record written.
func (q *question) write(kind, arg int) {
	r := api.Rec{Kind: kind, Job: q.Job, Epoch: q.Epoch, Arg: arg}
	if isOfStep(kind) {
		r.Step = q.Step
	}
	q.act.Has, q.act.Rec = true, r
}

// answer has the controller answered.
func (q *question) answer(kind, arg int) {
	q.act.Back = true
	q.act.Reply = api.Msg{Kind: kind, From: q.To, To: controller, Job: q.Job, Epoch: q.Epoch, Step: q.Step, Arg: arg}
}

// isOfStep says whether records of that kind are of a step, and not of a job as a whole.
func isOfStep(kind int) bool {
	return kind != rec.Prolog && kind != rec.Epilog && kind != rec.Void
}

// failed is how a prolog, or an epilog, that ended by a code is told.
func failed(code int) int {
	if code != 0 {
		return 1
	}
	return 0
}
