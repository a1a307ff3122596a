package show

import (
	"strconv"
	"strings"

	"secateur/api"
	"secateur/inst"
)

// page is what an instance's lines are written on, one behind the other.
type page struct {
	strings.Builder
}

// isOver: is there more on it than a text may have?
func (p *page) isOver() bool {
	return p.Len() > api.MaxText
}

// line writes a line: what it begins with, and numbers, each with a blank ahead.
func (p *page) line(head string, numbers ...int64) {
	p.WriteString(head)
	for _, n := range numbers {
		p.WriteByte(' ')
		p.WriteString(strconv.FormatInt(n, 10))
	}
	p.WriteByte('\n')
}

// instance writes the lines of an instance, which may be.
func (p *page) instance(i inst.Inst) {
	switch i.Kind {
	case inst.Knapsack:
		p.knapsack(i)
	case inst.Assignment, inst.Tsp:
		p.square(i)
	case inst.Cover:
		p.cover(i)
	}
}

func (p *page) knapsack(i inst.Inst) {
	p.line(i.Kind.Name())
	p.line("capacity", i.Cap)
	for _, x := range i.Items {
		p.line("item", x.Value, x.Weight)
	}
}

// square writes an instance of a kind that has rows.
func (p *page) square(i inst.Inst) {
	p.line(i.Kind.Name(), int64(len(i.Cost)))
	for _, row := range i.Cost {
		p.line("row", row...)
	}
}

// cover ends at the set with which there is too much: behind it may be many
// times what a text may have, which nobody will read.
func (p *page) cover(i inst.Inst) {
	p.line(i.Kind.Name(), int64(i.Size))
	for _, x := range i.Sets {
		if p.isOver() {
			return
		}
		p.line("set "+strconv.FormatInt(x.Cost, 10)+":", wide(x.Elems)...)
	}
}

// wide is a list in numbers as a line has them.
func wide(l []int) []int64 {
	w := make([]int64, len(l))
	for at, x := range l {
		w[at] = int64(x)
	}
	return w
}
