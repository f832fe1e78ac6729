// Package faces holds the layers' calls against the signatures that the chapters list: where one is otherwise, this does not build.
package faces

import (
	"testing"

	"breadline/add"
	"breadline/admit"
	"breadline/api"
	"breadline/audit"
	"breadline/bound"
	"breadline/call"
	"breadline/claim"
	"breadline/crew"
	"breadline/draw"
	"breadline/mem"
	"breadline/model"
	"breadline/pack"
	"breadline/plan"
	"breadline/pool"
	"breadline/release"
	"breadline/report"
	"breadline/run"
	"breadline/sched"
	"breadline/shift"
	"breadline/slot"
	"breadline/snap"
	"breadline/solo"
	"breadline/trace"
	"breadline/tree"
	"breadline/usage"
)

type (
	conf   = api.Conf
	script = [][]api.Call
	events = []api.Event
)

// Layers 1 to 5.
var (
	_ func(int, int) (int, bool) = pack.Word
	_ func(int) int              = pack.Version
	_ func(int) int              = pack.Value
	_ func(int, int) (int, bool) = pack.Next

	_ func(int) int      = draw.Next
	_ func(int) int      = draw.Begin
	_ func(int, int) int = draw.Pick

	_ func(int) *mem.Mem                                       = mem.New
	_ func(*mem.Mem) int                                       = (*mem.Mem).Len
	_ func(*mem.Mem) []int                                     = (*mem.Mem).Words
	_ func(*mem.Mem, int, int)                                 = (*mem.Mem).Poke
	_ func(*mem.Mem, int) int                                  = (*mem.Mem).Load
	_ func(*mem.Mem, int, int) int                             = (*mem.Mem).Add
	_ func(*mem.Mem, int, int, int) bool                       = (*mem.Mem).Cas
	_ func(*mem.Mem, int, int)                                 = (*mem.Mem).Store
	_ func(*mem.Mem) []api.Access                              = (*mem.Mem).Log
	_ func(*mem.Mem, mem.Machine, []api.Poke, int) (int, bool) = mem.Play
	_ interface {
		Step(*mem.Mem) bool
		Ans() api.Ans
	} = mem.Machine(nil)

	_ func(conf) bool           = tree.Right
	_ func(conf, int) []int     = tree.Path
	_ func(conf) int            = tree.Depth
	_ func(conf, int, int) bool = tree.Under
	_ func(conf, int) bool      = tree.Leaf

	_ func(conf, int) int      = plan.Limit
	_ func(conf, int) int      = plan.Avail
	_ func(conf, int, int) int = plan.Lease
	_ func(conf, int) int      = plan.Counter
	_ func(conf, int) int      = plan.Ticket
	_ func(conf) int           = plan.Size
	_ func(conf) *mem.Mem      = plan.Fresh
)

// Layers 6 to 13.
var (
	_ func(int, int, int, int, int) *add.Machine = add.New
	_ func(*mem.Mem, int, int) int               = add.Sum
	_ mem.Machine                                = (*add.Machine)(nil)

	_ func(int) *snap.Machine           = snap.Peek
	_ func(int, int, int) *snap.Machine = snap.Count
	_ mem.Machine                       = (*snap.Machine)(nil)

	_ func(conf, int, int, int) *pool.Machine = pool.New
	_ func(*mem.Mem, conf, int) int           = pool.Left
	_ mem.Machine                             = (*pool.Machine)(nil)

	_ func(conf, int, int) *shift.Machine = shift.Refund
	_ func(conf, int, int) *shift.Machine = shift.Raise
	_ func(conf, int, int) *shift.Machine = shift.Lower
	_ mem.Machine                         = (*shift.Machine)(nil)

	_ func(int) int                   = slot.State
	_ func(int, int) (int, bool)      = slot.Turn
	_ func(int, int) (int, bool)      = slot.Body
	_ func(int) (int, int, bool)      = slot.Of
	_ func(int, int) (int, bool)      = slot.Handle
	_ func(int, int) (int, int, bool) = slot.Named

	_ func(conf, int) *claim.Machine = claim.New
	_ func(*claim.Machine) int       = (*claim.Machine).Word
	_ mem.Machine                    = (*claim.Machine)(nil)

	_ func(conf, int, int, int) *admit.Machine = admit.New
	_ mem.Machine                              = (*admit.Machine)(nil)

	_ func(conf, int, int) *release.Machine = release.New
	_ mem.Machine                           = (*release.Machine)(nil)
)

// Layers 14 to 24.
var (
	_ func(conf, []int, int) (int, int, bool) = usage.Live
	_ func(conf, []int, int) int              = usage.Used
	_ func(conf, []int, int) int              = usage.Held
	_ func(conf, int) *snap.Machine           = usage.Count
	_ func(conf, int) *snap.Machine           = usage.Peek

	_ func(conf, api.Call) api.Errno        = call.Check
	_ func(conf, int, api.Call) mem.Machine = call.New

	_ func(conf, script) *sched.Sched        = sched.New
	_ func(*sched.Sched, int) bool           = (*sched.Sched).Pick
	_ func(*sched.Sched) bool                = (*sched.Sched).Idle
	_ func(*sched.Sched, int) bool           = (*sched.Sched).Busy
	_ func(*sched.Sched) events              = (*sched.Sched).Events
	_ func(*sched.Sched) []int               = (*sched.Sched).Words
	_ func(*sched.Sched) []api.Access        = (*sched.Sched).Log
	_ func(conf, script, []int) *sched.Sched = sched.Run

	_ func(conf, script, []int) (events, []int) = crew.Run
	_ func(conf, script, []int) (events, []int) = crew.All

	_ func(events, int) bool      = trace.Right
	_ func(events) []int          = trace.Ends
	_ func(events) []int          = trace.Calls
	_ func(events, int, int) bool = trace.Before
	_ func(events) int            = trace.Most

	_ func(conf, []int) int    = audit.Safe
	_ func(conf, []int) int    = audit.Quiet
	_ func(conf, []int) [4]int = audit.Tickets

	_ func(conf) *model.Model              = model.New
	_ func(*model.Model, api.Call) api.Ans = (*model.Model).Do
	_ func(*model.Model, int) int          = (*model.Model).Limit
	_ func(*model.Model, int) int          = (*model.Model).Used

	_ func(conf) int                                    = solo.Bound
	_ func(conf) int                                    = solo.Window
	_ func(conf) *solo.Solo                             = solo.New
	_ func(*solo.Solo, *sched.Sched, int) int           = (*solo.Solo).Finish
	_ func(*solo.Solo, *sched.Sched, []int) (int, bool) = (*solo.Solo).All

	_ func(script) int                = bound.Most
	_ func(conf, int) int             = bound.Slack
	_ func(conf, script, []int) []int = bound.Groundless

	_ func(api.Event) string         = report.Line
	_ func(string) (api.Event, bool) = report.Read
	_ func(events) string            = report.Text

	_ func(int, int, int) []int                    = run.Picks
	_ func(conf, script, int) (events, []int, int) = run.Run
	_ func(conf, script, int) string               = run.Report
	_ func(conf, script, int) bool                 = run.Same
)

// The limits, and the numbers of errors and kinds, are those of the document.
func TestNumbers(t *testing.T) {
	limits := []int{api.MaxThreads, api.MaxStripes, api.MaxNodes, api.MaxTickets, api.MaxAmount, api.MaxLimit, api.MaxGate, api.MaxRetry, api.MaxCalls}
	for i, want := range []int{8, 8, 12, 16, 1 << 20, 1 << 40, 1 << 20, 8, 32} {
		if limits[i] != want {
			t.Errorf("limit %d is %d; want %d", i, limits[i], want)
		}
	}
	for want, e := range []api.Errno{api.OK, api.ErrArg, api.ErrNode, api.ErrFull, api.ErrOver, api.ErrTicket, api.ErrBig} {
		if int(e) != want {
			t.Errorf("error %d; want %d", e, want)
		}
	}
	if s := api.ErrBig.Error(); s != "breadline: error 6" {
		t.Errorf("ErrBig tells %q", s)
	}
	kinds := []int{api.Load, api.Add, api.Cas, api.Store, api.Admit, api.Release, api.Raise, api.Lower, api.Usage, api.Peek, api.Begin, api.End}
	for i, want := range []int{1, 2, 3, 4, 1, 2, 3, 4, 5, 6, 1, 2} {
		if kinds[i] != want {
			t.Errorf("kind %d is %d; want %d", i, kinds[i], want)
		}
	}
}
