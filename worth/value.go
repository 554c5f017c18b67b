package worth

import (
	"cmp"
	"slices"
	"strconv"

	"espalier/api"
)

// rank is where the values of a type stand among those of the others.
func rank(v api.Value) int {
	switch v.(type) {
	case api.Unit:
		return 0
	case api.Truth:
		return 1
	case api.Int:
		return 2
	case api.Text:
		return 3
	}
	return 4
}

// compare tells the order of two values that this package made.
func compare(a, b api.Value) int {
	if c := cmp.Compare(rank(a), rank(b)); c != 0 {
		return c
	}
	switch x := a.(type) {
	case api.Truth:
		return cmp.Compare(number(x), number(b.(api.Truth)))
	case api.Int:
		return cmp.Compare(x, b.(api.Int))
	case api.Text:
		return cmp.Compare(x, b.(api.Text))
	case api.List:
		return slices.CompareFunc(x, b.(api.List), compare)
	}
	return 0
}

func number(t api.Truth) int {
	if t {
		return 1
	}
	return 0
}

// size tells the size of a value that this package made.
func size(v api.Value) int {
	n := 1
	switch x := v.(type) {
	case api.Text:
		n += len(x)
	case api.List:
		for _, item := range x {
			n += size(item)
		}
	}
	return n
}

// write lays the text of a value that this package made behind out.
func write(out []byte, v api.Value) []byte {
	switch x := v.(type) {
	case api.Truth:
		if x {
			return append(out, "yes"...)
		}
		return append(out, "no"...)
	case api.Int:
		return strconv.AppendInt(out, int64(x), 10)
	case api.Text:
		return writeText(out, x)
	case api.List:
		return writeList(out, x)
	}
	return append(out, "unit"...)
}

func writeList(out []byte, list api.List) []byte {
	out = append(out, '[')
	for i, item := range list {
		if i > 0 {
			out = append(out, ", "...)
		}
		out = write(out, item)
	}
	return append(out, ']')
}

const hexDigits = "0123456789abcdef"

func writeText(out []byte, text api.Text) []byte {
	out = append(out, '"')
	for i := range len(text) {
		switch c := text[i]; {
		case c == '"' || c == '\\':
			out = append(out, '\\', c)
		case plainByte(c):
			out = append(out, c)
		default:
			out = append(out, '\\', 'x', hexDigits[c>>4], hexDigits[c&15])
		}
	}
	return append(out, '"')
}

// plainByte tells whether a byte is never written by its digits.
func plainByte(c byte) bool { return c >= 32 && c <= 126 }
