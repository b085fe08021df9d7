package sem

import (
	"runrig/api"
	"runrig/store"
)

const (
	goingOn = 0 // the End of a run that has none yet
	noTrap  = 0
	null    = 0
)

// run is a run of a program so far. Its tasks are what is still to be done, the next one last. They stand in a list and not
// in calls of functions of the interpreter, because parts that are nested deeply, in as many frames as there may be, would
// fill the stack of a goroutine.
type run struct {
	program api.Typed
	in      []int // what is not read yet
	fuel    int
	globals []int
	heap    *store.Store
	frames  []frame
	tasks   []task
	values  []int // of the expressions whose values nobody has taken yet
	beh     api.Beh
}

// frame is a call that has not ended: its locals, and how many tasks its caller had then.
type frame struct {
	locals []int
	tasks  int
}

// Kinds of tasks.
const (
	toEvaluate = iota // expr
	toApply           // expr, whose Kids have their values
	toExecute         // list
	toBegin           // stmt
	toComplete        // stmt, whose expressions have their values
	toLeave           // the function, whose body ends without an SRet
)

type task struct {
	kind int
	expr *api.Expr
	stmt *api.Stmt
	list []api.Stmt
}

func newRun(t api.Typed, in []int, fuel int) *run {
	r := &run{program: t, in: in, fuel: fuel, globals: make([]int, len(t.Heads.Globals)), heap: store.New()}
	r.enter(t.Heads.Main)
	return r
}

// advance does the next task.
func (r *run) advance() {
	last := len(r.tasks) - 1
	next := r.tasks[last]
	r.tasks = r.tasks[:last]
	switch next.kind {
	case toEvaluate:
		r.evaluate(next.expr)
	case toApply:
		r.apply(next.expr)
	case toExecute:
		r.execute(next.list)
	case toBegin:
		r.begin(next.stmt)
	case toComplete:
		r.complete(next.stmt)
	case toLeave:
		r.leave(0)
	}
}

func (r *run) push(t task) { r.tasks = append(r.tasks, t) }

// takeStep tells whether there was fuel for the step; otherwise the run has ended.
func (r *run) takeStep() bool {
	if r.beh.Steps >= r.fuel {
		r.beh.End = api.EndFuel
		return false
	}
	r.beh.Steps++
	return true
}

func (r *run) trap(code int) { r.beh.End, r.beh.Code = api.EndTrap, code }

// give hands a value on to whoever takes it.
func (r *run) give(value int) { r.values = append(r.values, value) }

// take is the last value that was given and not taken yet.
func (r *run) take() int {
	last := len(r.values) - 1
	value := r.values[last]
	r.values = r.values[:last]
	return value
}

// variable is where the value of a variable lies.
func (r *run) variable(ref int) *int {
	if ref < 0 {
		return &r.globals[-1-ref]
	}
	return &r.frames[len(r.frames)-1].locals[ref]
}

// call enters a function, unless it would be one frame too many.
func (r *run) call(f int) {
	if len(r.frames) == api.MaxCalls {
		r.trap(api.TrapDeep)
		return
	}
	r.enter(f)
}

// enter begins a function, whose parameters take the last values that were given.
func (r *run) enter(f int) {
	body := &r.program.Bodies[f]
	locals := make([]int, len(body.Vars))
	rest := len(r.values) - len(r.program.Heads.Sigs[f].Params)
	copy(locals, r.values[rest:])
	r.values = r.values[:rest]
	r.frames = append(r.frames, frame{locals: locals, tasks: len(r.tasks)})
	r.push(task{kind: toLeave})
	r.push(task{kind: toExecute, list: body.Code})
}

// leave ends a function, whatever is still to be done in it, and gives its value to the caller. A run ends with its first
// frame.
func (r *run) leave(value int) {
	last := len(r.frames) - 1
	r.tasks = r.tasks[:r.frames[last].tasks]
	r.frames = r.frames[:last]
	if last == 0 {
		r.beh.End = api.EndExit
		return
	}
	r.give(value)
}
