package words

import (
	"strconv"
	"strings"

	"espalier/api"
)

// The operations are told values of the right sorts, as many as there must be.

func text(args []api.Value, i int) string { return string(args[i].(api.Text)) }

func number(args []api.Value, i int) int64 { return int64(args[i].(api.Int)) }

func wrote(s string) (api.Value, api.Errno, string) { return api.Text(s), api.OK, "" }

func came(n int64) (api.Value, api.Errno, string) { return api.Int(n), api.OK, "" }

func refused(e api.Errno) (api.Value, api.Errno, string) { return nil, e, "" }

// most is how many bytes a text has at most: its size is one more.
const most = api.MaxWorth - 1

func join(args []api.Value) (api.Value, api.Errno, string) {
	a, b := text(args, 0), text(args, 1)
	if len(a)+len(b) > most {
		return refused(api.ErrLong)
	}
	return wrote(a + b)
}

func size(args []api.Value) (api.Value, api.Errno, string) {
	return came(int64(len(text(args, 0))))
}

func cut(args []api.Value) (api.Value, api.Errno, string) {
	s, from, to := text(args, 0), number(args, 1), number(args, 2)
	if from < 0 || from > to || to > int64(len(s)) {
		return refused(api.ErrBounds)
	}
	return wrote(s[from:to])
}

func find(args []api.Value) (api.Value, api.Errno, string) {
	return came(int64(strings.Index(text(args, 0), text(args, 1))))
}

func rep(args []api.Value) (api.Value, api.Errno, string) {
	s, n := text(args, 0), number(args, 1)
	switch {
	case n < 0:
		return refused(api.ErrBounds)
	case s == "":
		return wrote("")
	case n > int64(most/len(s)):
		return refused(api.ErrLong)
	}
	return wrote(strings.Repeat(s, int(n)))
}

func less(args []api.Value) (api.Value, api.Errno, string) {
	return api.Truth(text(args, 0) < text(args, 1)), api.OK, ""
}

func of(args []api.Value) (api.Value, api.Errno, string) {
	return wrote(digits(number(args, 0)))
}

func digits(n int64) string { return strconv.FormatInt(n, 10) }

// num holds what was read against its text, as strconv reads other forms, too.
func num(args []api.Value) (api.Value, api.Errno, string) {
	s := text(args, 0)
	n, e := strconv.ParseInt(s, 10, 64)
	if e != nil || digits(n) != s {
		return refused(api.ErrNumber)
	}
	return came(n)
}
