package worth

import (
	"strconv"
	"strings"

	"espalier/api"
)

// reader reads a value's text from the left. Where something is amiss, at is
// the place to tell.
type reader struct {
	text string
	at   int
	nest int
}

// next is the byte that stands there. At the end it is 0, which can stand
// nowhere in a value's text.
func (r *reader) next() byte {
	if r.at == len(r.text) {
		return 0
	}
	return r.text[r.at]
}

// take goes over a byte, if it is the one that stands there.
func (r *reader) take(c byte) bool {
	if r.next() != c {
		return false
	}
	r.at++
	return true
}

// whole reads a value and nothing behind it.
func (r *reader) whole() (api.Value, api.Errno) {
	v, e := r.value()
	if e != api.OK {
		return nil, e
	}
	if r.at < len(r.text) {
		return nil, api.ErrSyntax
	}
	if size(v) > api.MaxWorth {
		return nil, api.ErrLong
	}
	return v, api.OK
}

func (r *reader) value() (api.Value, api.Errno) {
	switch c := r.next(); {
	case c == 'u':
		return r.word("unit", api.Unit{})
	case c == 'y':
		return r.word("yes", api.Truth(true))
	case c == 'n':
		return r.word("no", api.Truth(false))
	case c == '-' || digit(c):
		return r.number()
	case c == '"':
		return r.quoted()
	case c == '[':
		return r.list()
	}
	return nil, api.ErrSyntax
}

func (r *reader) word(word string, v api.Value) (api.Value, api.Errno) {
	for i := range len(word) {
		if !r.take(word[i]) {
			return nil, api.ErrSyntax
		}
	}
	return v, api.OK
}

func digit(c byte) bool { return c >= '0' && c <= '9' }

func (r *reader) number() (api.Value, api.Errno) {
	from := r.at
	below := r.take('-')
	switch first := r.next(); {
	case first == '0' && !below:
		r.at++
		return api.Int(0), api.OK
	case first == '0' || !digit(first):
		return nil, api.ErrSyntax
	}
	for digit(r.next()) {
		r.at++
	}
	n, err := strconv.ParseInt(r.text[from:r.at], 10, 64)
	if err != nil {
		r.at = from
		return nil, api.ErrOver
	}
	return api.Int(n), api.OK
}

func (r *reader) quoted() (api.Value, api.Errno) {
	var out strings.Builder
	r.at++
	for !r.take('"') {
		c := r.next()
		if !plainByte(c) {
			return nil, api.ErrSyntax
		}
		r.at++
		if c == '\\' {
			var e api.Errno
			if c, e = r.escaped(); e != api.OK {
				return nil, e
			}
		}
		out.WriteByte(c)
	}
	return api.Text(out.String()), api.OK
}

// escaped reads what stands behind a backslash.
func (r *reader) escaped() (byte, api.Errno) {
	switch c := r.next(); c {
	case '"', '\\':
		r.at++
		return c, api.OK
	case 'x':
		r.at++
		return r.byDigits()
	}
	return 0, api.ErrSyntax
}

// byDigits reads a byte by its two digits. A plain byte is not written so: the
// first digit is amiss, if no byte with it is, else the second one.
func (r *reader) byDigits() (byte, api.Errno) {
	high := strings.IndexByte(hexDigits, r.next())
	if high < 0 || plainByte(byte(high<<4)) && plainByte(byte(high<<4|15)) {
		return 0, api.ErrSyntax
	}
	r.at++
	low := strings.IndexByte(hexDigits, r.next())
	if low < 0 || plainByte(byte(high<<4|low)) {
		return 0, api.ErrSyntax
	}
	r.at++
	return byte(high<<4 | low), api.OK
}

func (r *reader) list() (api.Value, api.Errno) {
	if r.nest == api.MaxNest {
		return nil, api.ErrLong
	}
	r.at++
	if r.take(']') {
		return api.List{}, api.OK
	}
	r.nest++
	defer func() { r.nest-- }()
	var list api.List
	for {
		item, e := r.value()
		if e != api.OK {
			return nil, e
		}
		list = append(list, item)
		if r.take(']') {
			return list, api.OK
		}
		if !r.take(',') || !r.take(' ') {
			return nil, api.ErrSyntax
		}
	}
}
