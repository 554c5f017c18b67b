package caught_test

// The tests of what is caught, by P15.3 and doc/00.

import (
	"errors"
	"fmt"
	"strings"
	"sync"
	"testing"

	"espalier/api"
	"espalier/caught"
	"espalier/fault"
)

var at = api.Place{Fun: "f", Path: []int{0, 1}}

// wanted fails, unless a fault, by itself and in what may stand around it, is
// caught with that text, or not caught.
func wanted(t *testing.T, e error, text string, ok bool) {
	t.Helper()
	for _, x := range []error{e, fault.Wrap(e, "note"), fault.Wrap(fault.Wrap(e, "in"), "out"), fmt.Errorf("strange: %w", e)} {
		if got, is := caught.Text(x); got != text || is != ok {
			t.Errorf("P15.3: %v: %q, %v, not %q, %v", x, got, is, text, ok)
		}
	}
}

func TestNames(t *testing.T) {
	for code, name := range map[api.Errno]string{api.ErrKind: "kind", api.ErrOver: "over", api.ErrZero: "zero", api.ErrBounds: "bounds", api.ErrNumber: "number", api.ErrLong: "long"} {
		wanted(t, fault.At(code, at), name, true)
		wanted(t, fault.At(code, api.Place{}), name, true)
		wanted(t, fault.New(code), name, true)
	}
}

func TestRaised(t *testing.T) {
	for _, text := range []string{"no", "", "kind", "a\nb: c", "\x00\xff", strings.Repeat("x", 65535)} {
		wanted(t, fault.Raise(at, text), text, true)
	}
	wanted(t, fault.At(api.ErrRaise, at), "", true)
}

func TestNotCaught(t *testing.T) {
	for _, code := range []api.Errno{api.ErrFuel, api.ErrRoom, api.ErrDeep, api.ErrFull, api.ErrName, api.ErrCount, api.ErrLack} {
		wanted(t, fault.At(code, at), "", false)
	}
	wanted(t, fault.Lack(at, "geo.far", "worth"), "", false)
	wanted(t, fault.Lack(at, "geo.far", "Strict"), "", false)
}

func TestNoFaults(t *testing.T) {
	for _, e := range []error{nil, errors.New("kind"), fault.Wrap(errors.New("x"), "kind")} {
		if got, is := caught.Text(e); got != "" || is {
			t.Errorf("P15.3: %v: %q, %v", e, got, is)
		}
	}
}

func TestSeveralGoroutines(t *testing.T) {
	e := fault.Raise(at, "no")
	var all sync.WaitGroup
	for range 8 {
		all.Go(func() {
			for range 100 {
				if got, is := caught.Text(e); got != "no" || !is {
					t.Errorf("P15.3: at the same time: %q, %v", got, is)
				}
			}
		})
	}
	all.Wait()
}
