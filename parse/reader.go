package parse

import (
	"secateur/api"
	"secateur/inst"
	"secateur/lex"
)

// The grammar's words, but for the kinds'.
const (
	capacity = "capacity"
	item     = "item"
	row      = "row"
	set      = "set"
)

// reader takes a text's tokens, from the beginning on. It needs no look at how
// many are left: what may not be the End fails there.
type reader struct {
	rest []lex.Token
}

// take is the next token, which must be of that kind.
func (r *reader) take(k lex.Kind) lex.Token {
	x := r.rest[0]
	if x.Kind != k {
		panic(fault{x.Pos, api.ErrForm})
	}
	r.rest = r.rest[1:]
	return x
}

// word takes that Word.
func (r *reader) word(text string) {
	if x := r.take(lex.Word); x.Text != text {
		panic(fault{x.Pos, api.ErrForm})
	}
}

// number takes a Number, which must be from least to most, or else fails with e.
func (r *reader) number(least, most int64, e api.Errno) lex.Token {
	x := r.take(lex.Number)
	if x.N < least || x.N > most {
		panic(fault{x.Pos, e})
	}
	return x
}

// limited takes a Number that must be in an instance's limits.
func (r *reader) limited(least, most int64) int64 {
	return r.number(least, most, api.ErrLimit).N
}

// amount takes a Number that is in the limits of all but a square's.
func (r *reader) amount() int64 {
	return r.limited(0, api.MaxMag)
}

// another takes the Word with which one more of a list begins, if it is there;
// n are in the list already.
func (r *reader) another(text string, n int) bool {
	x := r.rest[0]
	if x.Kind != lex.Word || x.Text != text {
		return false
	}
	if n == api.MaxN {
		panic(fault{x.Pos, api.ErrLimit})
	}
	r.take(lex.Word)
	return true
}

// instance takes an instance, but for the End.
func (r *reader) instance() inst.Inst {
	x := r.take(lex.Word)
	switch x.Text {
	case inst.Knapsack.Name():
		return r.knapsack()
	case inst.Assignment.Name():
		return r.square(inst.Assignment)
	case inst.Tsp.Name():
		return r.square(inst.Tsp)
	case inst.Cover.Name():
		return r.cover()
	}
	panic(fault{x.Pos, api.ErrForm})
}

func (r *reader) knapsack() inst.Inst {
	r.word(capacity)
	i := inst.Inst{Kind: inst.Knapsack, Cap: r.amount()}
	for r.another(item, len(i.Items)) {
		value := r.amount()
		i.Items = append(i.Items, inst.Item{Value: value, Weight: r.amount()})
	}
	return i
}

// square takes an instance of a kind that has rows.
func (r *reader) square(k inst.Kind) inst.Inst {
	i := inst.Inst{Kind: k, Cost: make([][]int64, r.limited(1, api.MaxSide))}
	for at := range i.Cost {
		i.Cost[at] = r.row(len(i.Cost), at, k == inst.Tsp)
	}
	return i
}

// row takes a row of n numbers, which has its own place at own; there it must
// be 0, if it is hollow.
func (r *reader) row(n, own int, hollow bool) []int64 {
	r.word(row)
	l := make([]int64, n)
	for at := range l {
		x := r.number(-api.MaxMag, api.MaxMag, api.ErrLimit)
		if hollow && at == own && x.N != 0 {
			panic(fault{x.Pos, api.ErrForm})
		}
		l[at] = x.N
	}
	return l
}

func (r *reader) cover() inst.Inst {
	size := r.limited(0, api.MaxN)
	i := inst.Inst{Kind: inst.Cover, Size: int(size)}
	for r.another(set, len(i.Sets)) {
		cost := r.amount()
		r.take(lex.Colon)
		i.Sets = append(i.Sets, inst.Set{Cost: cost, Elems: r.elems(size)})
	}
	return i
}

// elems takes a set's elements: all Numbers that stand there.
func (r *reader) elems(size int64) []int {
	var l []int
	least := int64(0)
	for r.rest[0].Kind == lex.Number {
		x := r.number(least, size-1, api.ErrForm).N
		l = append(l, int(x))
		least = x + 1
	}
	return l
}
