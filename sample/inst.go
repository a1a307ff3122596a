package sample

import (
	"strconv"
	"strings"

	"secateur/api"
	"secateur/inst"
)

// Knapsack, Square (of a kind that has rows) and Cover are instances with just
// that, whether they may be or not.
func Knapsack(room int64, l ...inst.Item) inst.Inst {
	return inst.Inst{Kind: inst.Knapsack, Cap: room, Items: l}
}

func Square(k inst.Kind, l ...[]int64) inst.Inst {
	return inst.Inst{Kind: k, Cost: l}
}

func Cover(size int, l ...inst.Set) inst.Inst {
	return inst.Inst{Kind: inst.Cover, Size: size, Sets: l}
}

// amount is a number from 0 to MaxMag, of any count of digits.
func amount(d *Dice) int64 {
	if d.Roll(8) == 0 {
		return []int64{0, 1, api.MaxMag - 1, api.MaxMag}[d.Roll(4)]
	}
	return int64(d.Roll(1 << (1 + d.Roll(31))))
}

// Strewn is an instance of a kind, which may be, of at most so many items, rows
// or sets.
func Strewn(d *Dice, k inst.Kind, most int) inst.Inst {
	i := inst.Inst{Kind: k}
	switch k {
	case inst.Knapsack:
		i.Cap = amount(d)
		for range d.Roll(most + 1) {
			i.Items = append(i.Items, inst.Item{Value: amount(d), Weight: amount(d)})
		}
	case inst.Assignment, inst.Tsp:
		n := 1 + d.Roll(min(most, api.MaxSide))
		for r := range n {
			i.Cost = append(i.Cost, strewnRow(d, n))
			if k == inst.Tsp {
				i.Cost[r][r] = 0
			}
		}
	case inst.Cover:
		i.Size = d.Roll(api.MaxN + 1)
		for range d.Roll(most + 1) {
			i.Sets = append(i.Sets, inst.Set{Cost: amount(d), Elems: strewnElems(d, i.Size)})
		}
	}
	return i
}

func strewnRow(d *Dice, n int) []int64 {
	row := make([]int64, n)
	for at := range row {
		row[at] = amount(d) * int64(1-2*d.Roll(2))
	}
	return row
}

func strewnElems(d *Dice, size int) []int {
	var l []int
	for e := d.Roll(100); e < size; e += 1 + d.Roll(1<<d.Roll(8)) {
		l = append(l, e)
	}
	return l
}

// Behind are instances of each kind, some of which mayn't be; behind each of
// their lists something lies in its memory.
func Behind() []inst.Inst {
	l := []inst.Item{{Value: 6, Weight: 3}, {Value: 5, Weight: 4}, {Value: 71, Weight: 72}, {Value: -73, Weight: 74}}
	row := []int64{0, -1, 75, -76}
	cost := [][]int64{row[:2], append([]int64{2, 0}, 77)[:2], {78, 79}}
	elems := []int{0, 2, 81, 82}
	some := []inst.Set{{Cost: 5, Elems: elems[:2]}, {Elems: elems[:0]}, {Cost: 83, Elems: []int{84}}}
	return []inst.Inst{
		Knapsack(9, l[:2]...), Knapsack(9, l[:0]...), Square(inst.Assignment, cost[:2]...), Square(inst.Tsp, cost[:2]...),
		Cover(3, some[:2]...), Cover(3, some[:0]...),
		Square(inst.Tsp, cost[:0]...), Square(inst.Assignment, cost[:1]...), Cover(2, some[:1]...),
		{Kind: inst.Kinds, Items: l[:1], Cost: cost[:1], Sets: some[:1]},
	}
}

// Whole tells all of an instance, with what lies behind its lists.
func Whole(i inst.Inst) string {
	var b strings.Builder
	write(&b, "kind", int64(i.Kind), i.Cap, int64(i.Size), int64(len(i.Items)), int64(len(i.Cost)), int64(len(i.Sets)))
	for _, x := range i.Items[:cap(i.Items)] {
		write(&b, "item", x.Value, x.Weight)
	}
	for _, row := range i.Cost[:cap(i.Cost)] {
		write(&b, "row", int64(len(row)))
		write(&b, "of", row[:cap(row)]...)
	}
	for _, x := range i.Sets[:cap(i.Sets)] {
		write(&b, "set", x.Cost, int64(len(x.Elems)))
		for _, e := range x.Elems[:cap(x.Elems)] {
			write(&b, "elem", int64(e))
		}
	}
	return b.String()
}

func write(b *strings.Builder, head string, l ...int64) {
	b.WriteString(head)
	for _, n := range l {
		b.WriteByte(' ')
		b.WriteString(strconv.FormatInt(n, 10))
	}
	b.WriteByte('\n')
}
