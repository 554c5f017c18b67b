package num

import (
	"math"
	"math/bits"

	"espalier/api"
)

// The operations are told values of the right sorts, as many as there must be.

func one(args []api.Value) int64 { return int64(args[0].(api.Int)) }

func two(args []api.Value) (a, b int64) { return one(args), one(args[1:]) }

func came(n int64) (api.Value, api.Errno, string) { return api.Int(n), api.OK, "" }

func told(yes bool) (api.Value, api.Errno, string) { return api.Truth(yes), api.OK, "" }

func refused(e api.Errno) (api.Value, api.Errno, string) { return nil, e, "" }

func add(args []api.Value) (api.Value, api.Errno, string) {
	a, b := two(args)
	if b > 0 && a > math.MaxInt64-b || b < 0 && a < math.MinInt64-b {
		return refused(api.ErrOver)
	}
	return came(a + b)
}

func sub(args []api.Value) (api.Value, api.Errno, string) {
	a, b := two(args)
	if b < 0 && a > math.MaxInt64+b || b > 0 && a < math.MinInt64+b {
		return refused(api.ErrOver)
	}
	return came(a - b)
}

func mul(args []api.Value) (api.Value, api.Errno, string) {
	p, ok := product(two(args))
	if !ok {
		return refused(api.ErrOver)
	}
	return came(p)
}

// product is false, if it is none of 64 bits.
func product(a, b int64) (int64, bool) {
	high, low := bits.Mul64(size(a), size(b))
	switch {
	case high != 0:
		return 0, false
	case (a < 0) != (b < 0):
		// Below 0 there is one number more; its size turns into itself.
		return -int64(low), low <= 1<<63
	}
	return int64(low), low < 1<<63
}

func size(n int64) uint64 {
	if n < 0 {
		return -uint64(n)
	}
	return uint64(n)
}

func quo(args []api.Value) (api.Value, api.Errno, string) {
	a, b := two(args)
	switch {
	case b == 0:
		return refused(api.ErrZero)
	case a == math.MinInt64 && b == -1:
		return refused(api.ErrOver)
	}
	return came(a / b)
}

func mod(args []api.Value) (api.Value, api.Errno, string) {
	a, b := two(args)
	if b == 0 {
		return refused(api.ErrZero)
	}
	m := a % b
	if m != 0 && (m < 0) != (b < 0) {
		m += b
	}
	return came(m)
}

func pow(args []api.Value) (api.Value, api.Errno, string) {
	a, n := two(args)
	if n < 0 {
		return refused(api.ErrBounds)
	}
	// These come round again after two factors; all others are over soon.
	if -1 <= a && a <= 1 && n > 2 {
		n = 2 - n%2
	}
	p, ok := int64(1), true
	for range n {
		if p, ok = product(p, a); !ok {
			return refused(api.ErrOver)
		}
	}
	return came(p)
}

func neg(args []api.Value) (api.Value, api.Errno, string) {
	a := one(args)
	if a == math.MinInt64 {
		return refused(api.ErrOver)
	}
	return came(-a)
}

func abs(args []api.Value) (api.Value, api.Errno, string) {
	if one(args) < 0 {
		return neg(args)
	}
	return came(one(args))
}

func least(args []api.Value) (api.Value, api.Errno, string) {
	a, b := two(args)
	return came(min(a, b))
}

func greatest(args []api.Value) (api.Value, api.Errno, string) {
	a, b := two(args)
	return came(max(a, b))
}

func less(args []api.Value) (api.Value, api.Errno, string) {
	a, b := two(args)
	return told(a < b)
}

func most(args []api.Value) (api.Value, api.Errno, string) {
	a, b := two(args)
	return told(a <= b)
}
