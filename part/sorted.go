package part

import (
	"strings"

	"espalier/api"
	"espalier/sort"
)

// Sorted is the part of nodes with sorts: the signature as the document's
// tables write it, `list a, b > list b; bound a`, with ` ..` behind the last
// sort of kids where Rest holds, and nothing ahead of ` >` where there are no
// kids. As it is read each time, what is told is each time the caller's own.
type Sorted string

// Signs tells the signature.
func (s Sorted) Signs() api.Signature {
	ins, out, _ := strings.Cut(string(s), " > ")
	out, bound, _ := strings.Cut(out, "; bound ")
	ins, rest := strings.CutSuffix(ins, " ..")
	signs := api.Signature{Rest: rest, Out: sorted(out), Bound: sorted(bound)}
	if ins == "" {
		return signs
	}
	for in := range strings.SplitSeq(ins, ", ") {
		signs.Ins = append(signs.Ins, sorted(in))
	}
	return signs
}

func sorted(text string) api.Sort {
	s, _, _ := sort.Read(text)
	return s
}

// Right tells whether values are of the sorts that a signature asks of kids,
// as far as each one alone tells: a variable's is any, a list's any list.
func Right(s Sorted, values ...api.Value) bool {
	ins, _, _ := strings.Cut(string(s), " > ")
	ins, rest := strings.CutSuffix(ins, " ..")
	in, ins, more := strings.Cut(ins, ", ")
	for i, v := range values {
		if i > 0 && more {
			in, ins, more = strings.Cut(ins, ", ")
		} else if i > 0 && !rest {
			return false
		}
		if name, _, _ := strings.Cut(in, " "); len(name) > 1 && name != v.Sort() {
			return false
		}
	}
	return true
}
