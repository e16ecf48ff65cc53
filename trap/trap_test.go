package trap_test

import (
	"errors"
	"runtime"
	"slices"
	"sync"
	"testing"

	"precentor/api"
	"precentor/trap"
)

// problems are all errors that api names, and some that it does not: each
// api.Errno other than OK is an error.
var problems = []api.Errno{
	api.ErrArg, api.ErrShort, api.ErrForm, api.ErrNone, api.ErrHeld,
	api.ErrFull, api.ErrBusy, api.ErrSpent, -1, 99,
}

// caught tells what f panics with; nil: it returned.
func caught(f func()) (x any) {
	defer func() { x = recover() }()
	f()
	return nil
}

// stopper makes a function that Stops with e.
func stopper(e api.Errno) func() {
	return func() { trap.Stop(e) }
}

// thrower makes a function that panics with x.
func thrower(x any) func() {
	return func() { panic(x) }
}

// 1.1

func TestStopOfOKDoesNothing(t *testing.T) {
	if x := caught(stopper(api.OK)); x != nil {
		t.Errorf("Stop(OK) panics with %v", x)
	}
}

func TestStopPanicsWithTheErrno(t *testing.T) {
	for _, e := range problems {
		if x := caught(stopper(e)); x != any(e) {
			t.Errorf("Stop(%d) panics with %T %v", e, x, x)
		}
	}
}

func TestNeed(t *testing.T) {
	for _, e := range problems {
		if x := caught(func() { trap.Need(true, e) }); x != nil {
			t.Errorf("Need(true, %d) panics with %v", e, x)
		}
		if x := caught(func() { trap.Need(false, e) }); x != any(e) {
			t.Errorf("Need(false, %d) panics with %T %v", e, x, x)
		}
	}
	for _, ok := range []bool{false, true} {
		if x := caught(func() { trap.Need(ok, api.OK) }); x != nil {
			t.Errorf("Need(%v, OK) panics with %v", ok, x)
		}
	}
}

func TestRunOfNil(t *testing.T) {
	var e api.Errno
	if x := caught(func() { e = trap.Run(nil) }); x != nil || e != api.OK {
		t.Errorf("Run(nil) is %d, panics with %v", e, x)
	}
}

func TestRunCallsOnce(t *testing.T) {
	n := 0
	if e := trap.Run(func() { n++ }); e != api.OK || n != 1 {
		t.Errorf("Run is %d after %d calls", e, n)
	}
}

func TestRunOfOneThatStops(t *testing.T) {
	for _, e := range problems {
		behind := false
		got := trap.Run(func() {
			trap.Stop(e)
			behind = true
		})
		if got != e || behind {
			t.Errorf("Run of Stop(%d) is %d; went on: %v", e, got, behind)
		}
		if got := trap.Run(func() { trap.Need(false, e) }); got != e {
			t.Errorf("Run of Need(false, %d) is %d", e, got)
		}
	}
}

func TestRunOfOneThatPanicsWithAnErrno(t *testing.T) {
	for _, e := range append([]api.Errno{api.OK}, problems...) {
		if got := trap.Run(thrower(e)); got != e {
			t.Errorf("Run of panic(%d) is %d", e, got)
		}
	}
}

func TestRunOfAStopFarBelow(t *testing.T) {
	var down func(n int)
	down = func(n int) {
		trap.Need(n > 0, api.ErrSpent)
		down(n - 1)
	}
	if e := trap.Run(func() { down(1000) }); e != api.ErrSpent {
		t.Errorf("Run is %d", e)
	}
}

// errno looks like api.Errno, and is another type.
type errno int

// wrapped holds an api.Errno, and is none.
type wrapped struct{ E api.Errno }

func TestRunLetsOtherPanicsGoOn(t *testing.T) {
	e := api.ErrForm
	others := []any{
		"text", "", 0, int(api.ErrForm), int64(3), 2.5, true, 'x', errno(3),
		wrapped{api.ErrForm}, &e, &wrapped{api.ErrForm}, [2]int{1, 2},
		errors.New("an error"),
	}
	for _, v := range others {
		answered := false
		x := caught(func() {
			trap.Run(thrower(v))
			answered = true
		})
		if x != v || answered {
			t.Errorf("Run of panic(%T %v) panics with %T %v; answered: %v", v, v, x, x, answered)
		}
	}
}

func TestRunLetsASliceGoOn(t *testing.T) {
	v := []int{1, 2}
	x, ok := caught(func() { trap.Run(thrower(v)) }).([]int)
	if !ok || &x[0] != &v[0] {
		t.Errorf("Run panics with another slice: %v", x)
	}
}

func TestRunLetsRuntimeErrorsGoOn(t *testing.T) {
	var none []int
	var inside any
	x := caught(func() {
		trap.Run(func() {
			defer func() {
				inside = recover()
				panic(inside)
			}()
			none[len(none)]++
		})
	})
	if _, ok := x.(runtime.Error); !ok || x != inside {
		t.Errorf("an index out of range goes on as %T %v", x, x)
	}
}

func TestRunLetsPanicOfNilGoOn(t *testing.T) {
	x := caught(func() { trap.Run(thrower(nil)) })
	if _, ok := x.(*runtime.PanicNilError); !ok {
		t.Errorf("panic(nil) goes on as %T %v", x, x)
	}
}

func TestRunLetsAGoroutineEnd(t *testing.T) {
	var wg sync.WaitGroup
	answered := false
	wg.Go(func() {
		trap.Run(func() { runtime.Goexit() })
		answered = true
	})
	wg.Wait()
	if answered {
		t.Error("Run answered though its goroutine ended")
	}
}

func TestRunAnswersBehindWhatWasDeferred(t *testing.T) {
	for _, e := range append([]api.Errno{api.OK}, problems...) {
		var order []int
		got := trap.Run(func() {
			defer func() { order = append(order, 3) }()
			defer func() { order = append(order, 2) }()
			order = append(order, 1)
			trap.Stop(e)
		})
		order = append(order, 4)
		if got != e || !slices.Equal(order, []int{1, 2, 3, 4}) {
			t.Errorf("Run of Stop(%d) is %d, order %v", e, got, order)
		}
	}
}

func TestRunOfDeferredPanics(t *testing.T) {
	rows := []struct {
		name     string
		first    func()
		deferred func()
		answer   api.Errno
		goesOn   any
	}{
		{"Stop behind a return", func() {}, stopper(api.ErrHeld), api.ErrHeld, nil},
		{"Stop in place of a Stop", stopper(api.ErrNone), stopper(api.ErrHeld), api.ErrHeld, nil},
		{"Stop in place of another panic", thrower("first"), stopper(api.ErrHeld), api.ErrHeld, nil},
		{"another panic behind a return", func() {}, thrower("late"), api.OK, "late"},
		{"another panic in place of a Stop", stopper(api.ErrNone), thrower("late"), api.OK, "late"},
		{"another panic in place of another", thrower("first"), thrower("late"), api.OK, "late"},
		{"a Stop with OK counts for nothing", stopper(api.ErrNone), stopper(api.OK), api.ErrNone, nil},
		{"OK in place of a Stop", stopper(api.ErrNone), thrower(api.OK), api.OK, nil},
	}
	for _, r := range rows {
		var got api.Errno
		x := caught(func() {
			got = trap.Run(func() {
				defer r.deferred()
				r.first()
			})
		})
		if got != r.answer || x != r.goesOn {
			t.Errorf("%s: Run is %d, panics with %v", r.name, got, x)
		}
	}
}

func TestRunOfOneThatRecovers(t *testing.T) {
	for _, v := range []any{api.ErrFull, "text"} {
		var inside any
		var e api.Errno
		x := caught(func() {
			e = trap.Run(func() {
				defer func() { inside = recover() }()
				panic(v)
			})
		})
		if e != api.OK || inside != v || x != nil {
			t.Errorf("Run of one that recovers %v is %d, it saw %v, panics with %v", v, e, inside, x)
		}
	}
}

func TestRunInRun(t *testing.T) {
	var inner api.Errno
	behind := false
	outer := trap.Run(func() {
		inner = trap.Run(stopper(api.ErrShort))
		behind = true
	})
	if inner != api.ErrShort || outer != api.OK || !behind {
		t.Errorf("inner %d, outer %d, went on %v", inner, outer, behind)
	}
	outer = trap.Run(func() {
		inner = trap.Run(stopper(api.ErrFull))
		trap.Stop(api.ErrBusy)
	})
	if inner != api.ErrFull || outer != api.ErrBusy {
		t.Errorf("inner %d, outer %d", inner, outer)
	}
	x := caught(func() {
		trap.Run(func() { trap.Run(thrower("out")) })
	})
	if x != any("out") {
		t.Errorf("out of both goes %v", x)
	}
}

// A Run in a deferred function has nothing to do with the panic under way.
func TestRunWhileAnotherPanicIsUnderWay(t *testing.T) {
	for _, e := range append([]api.Errno{api.OK}, problems...) {
		inner := api.Errno(77)
		outer := trap.Run(func() {
			defer func() { inner = trap.Run(stopper(e)) }()
			trap.Stop(api.ErrForm)
		})
		if inner != e || outer != api.ErrForm {
			t.Errorf("inner %d, not %d; outer %d", inner, e, outer)
		}
		x := caught(func() {
			defer func() { inner = trap.Run(stopper(e)) }()
			panic("under way")
		})
		if inner != e || x != any("under way") {
			t.Errorf("inner %d, not %d; goes on: %v", inner, e, x)
		}
	}
}

func TestDeferredRunCatchesNothingOfItsCaller(t *testing.T) {
	for _, f := range []func(){nil, func() {}, func() { recover() }, stopper(api.ErrArg)} {
		x := caught(func() {
			defer trap.Run(f)
			trap.Stop(api.ErrFull)
		})
		if x != any(api.ErrFull) {
			t.Errorf("goes on: %v", x)
		}
	}
}

// R4: nothing is kept from one Run to the next.
func TestRunAgain(t *testing.T) {
	for range 3 {
		if e := trap.Run(stopper(api.ErrSpent)); e != api.ErrSpent {
			t.Errorf("Run is %d", e)
		}
		if x := caught(func() { trap.Run(thrower("out")) }); x != any("out") {
			t.Errorf("goes on: %v", x)
		}
		if e := trap.Run(func() {}); e != api.OK {
			t.Errorf("Run is %d", e)
		}
	}
}

// 1.2

// calls notes which of the functions that it makes were called.
type calls struct{ order []int }

// of makes a function that notes i, then does f.
func (c *calls) of(i int, f func()) func() {
	return func() {
		c.order = append(c.order, i)
		f()
	}
}

func nothing() {}

func TestEachOfNone(t *testing.T) {
	if n, e := trap.Each(); n != 0 || e != api.OK {
		t.Errorf("Each() is %d, %d", n, e)
	}
	if n, e := trap.Each([]func(){}...); n != 0 || e != api.OK {
		t.Errorf("Each of an empty list is %d, %d", n, e)
	}
}

func TestEachOfAllThatGoWell(t *testing.T) {
	for count := range 6 {
		var c calls
		var fs []func()
		var want []int
		for i := range count {
			fs = append(fs, c.of(i, nothing))
			want = append(want, i)
		}
		n, e := trap.Each(fs...)
		if n != count || e != api.OK || !slices.Equal(c.order, want) {
			t.Errorf("Each of %d is %d, %d, called %v", count, n, e, c.order)
		}
	}
}

func TestEachCountsNilOnes(t *testing.T) {
	if n, e := trap.Each(nil, nil); n != 2 || e != api.OK {
		t.Errorf("Each of two nil ones is %d, %d", n, e)
	}
	if n, e := trap.Each(nil, nothing, nil, stopper(api.ErrHeld), nil); n != 3 || e != api.ErrHeld {
		t.Errorf("Each of nil ones and a Stop is %d, %d", n, e)
	}
}

func TestEachUpToTheFirstError(t *testing.T) {
	const count = 4
	for _, bad := range problems {
		for at := range count {
			var c calls
			var fs []func()
			for i := range count {
				f := nothing
				if i == at {
					f = stopper(bad)
				}
				fs = append(fs, c.of(i, f))
			}
			n, e := trap.Each(fs...)
			if n != at || e != bad || !slices.Equal(c.order, []int{0, 1, 2, 3}[:at+1]) {
				t.Errorf("Stop(%d) at %d: Each is %d, %d, called %v", bad, at, n, e, c.order)
			}
		}
	}
}

func TestEachAnswersTheFirstOfTwoErrors(t *testing.T) {
	n, e := trap.Each(nothing, stopper(api.ErrFull), stopper(api.ErrBusy))
	if n != 1 || e != api.ErrFull {
		t.Errorf("Each is %d, %d", n, e)
	}
}

func TestEachGoesOnBehindAPanicWithOK(t *testing.T) {
	var c calls
	n, e := trap.Each(c.of(0, thrower(api.OK)), c.of(1, nothing))
	if n != 2 || e != api.OK || len(c.order) != 2 {
		t.Errorf("Each is %d, %d, called %v", n, e, c.order)
	}
}

func TestEachLetsOtherPanicsGoOn(t *testing.T) {
	for at := range 3 {
		var c calls
		fs := []func(){c.of(0, nothing), c.of(1, nothing), c.of(2, nothing)}
		fs[at] = c.of(at, thrower("out"))
		answered := false
		x := caught(func() {
			trap.Each(fs...)
			answered = true
		})
		if x != any("out") || answered || !slices.Equal(c.order, []int{0, 1, 2}[:at+1]) {
			t.Errorf("at %d: goes on %v, answered %v, called %v", at, x, answered, c.order)
		}
	}
}

func TestEachInEach(t *testing.T) {
	var inner int
	n, e := trap.Each(nothing, func() {
		k, e := trap.Each(nothing, nothing, stopper(api.ErrNone))
		inner = k
		trap.Stop(e)
	}, nothing)
	if inner != 2 || n != 1 || e != api.ErrNone {
		t.Errorf("inner %d, outer %d, %d", inner, n, e)
	}
}

// R2: a list that is spread stays as it was, its spare room too.
func TestEachLeavesItsListAlone(t *testing.T) {
	var c calls
	room := []func(){c.of(0, nothing), c.of(1, stopper(api.ErrForm)), c.of(2, nothing), c.of(3, nothing)}
	trap.Each(room[:3]...)
	c.order = nil
	for _, f := range room {
		if f == nil {
			t.Fatal("a function is gone")
		}
		trap.Run(f)
	}
	if !slices.Equal(c.order, []int{0, 1, 2, 3}) {
		t.Errorf("the list is now %v", c.order)
	}
}
