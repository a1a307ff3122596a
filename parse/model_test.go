package parse

import (
	"slices"
	"strconv"
	"strings"
	"testing"

	"secateur/api"
	"secateur/inst"
	"secateur/lex"
)

// P10.1, held against a model: a list of what is still to come, which each
// token, told as its text, takes from and adds to.

type model struct {
	i     inst.Inst
	to    []string
	cells []int64 // a square's numbers so far
	side  int
}

// step takes a token; of the End the text is empty.
func (m *model) step(token string) api.Errno {
	for {
		what := m.to[0]
		m.to = m.to[1:]
		switch {
		case what == "{item}" && token == "item":
			m.i.Items = append(m.i.Items, inst.Item{})
			m.then("Value", "Weight", "{item}")
			return full(len(m.i.Items))
		case what == "{set}" && token == "set":
			m.i.Sets = append(m.i.Sets, inst.Set{})
			m.then("Cost", ":", "{elem}", "{set}")
			return full(len(m.i.Sets))
		case what == "{elem}" && isNumber(token):
			m.then("{elem}")
			return m.put("elem", token)
		case what[0] == '{':
			continue // by the next of what is to come
		case what == "kind":
			return m.begin(token)
		case 'A' <= what[0] && what[0] <= 'Z':
			if !isNumber(token) {
				return api.ErrForm
			}
			return m.put(what, token)
		case what == "end" && token == "", what == token:
			return api.OK
		}
		return api.ErrForm
	}
}

func full(n int) api.Errno {
	if n > 4096 {
		return api.ErrLimit
	}
	return api.OK
}

func isNumber(token string) bool {
	_, err := strconv.ParseInt(token, 10, 64)
	return err == nil
}

// then lays what is to come ahead of all that is so already.
func (m *model) then(l ...string) {
	m.to = append(l, m.to...)
}

func (m *model) begin(token string) api.Errno {
	m.to = []string{"end"}
	switch token {
	case "knapsack":
		m.then("capacity", "Cap", "{item}")
	case "assignment":
		m.i.Kind = inst.Assignment
		m.then("Side")
	case "tsp":
		m.i.Kind = inst.Tsp
		m.then("Side")
	case "cover":
		m.i.Kind = inst.Cover
		m.then("Size", "{set}")
	default:
		return api.ErrForm
	}
	return api.OK
}

// put lays a number where it belongs, if it may be.
func (m *model) put(what, token string) api.Errno {
	n, _ := strconv.ParseInt(token, 10, 64)
	limits := map[string][2]int64{
		"Cap": {0, 1 << 31}, "Value": {0, 1 << 31}, "Weight": {0, 1 << 31}, "Cost": {0, 1 << 31}, "Side": {1, 64}, "Size": {0, 4096}, "Cell": {-1 << 31, 1 << 31},
	}
	if l, ok := limits[what]; ok && (n < l[0] || n > l[1]) {
		return api.ErrLimit
	}
	switch what {
	case "Cap":
		m.i.Cap = n
	case "Value":
		m.i.Items[len(m.i.Items)-1].Value = n
	case "Weight":
		m.i.Items[len(m.i.Items)-1].Weight = n
	case "Cost":
		m.i.Sets[len(m.i.Sets)-1].Cost = n
	case "Size":
		m.i.Size = int(n)
	case "Side":
		m.side = int(n)
		for range n {
			m.then(slices.Repeat([]string{"Cell"}, m.side)...)
			m.then("row")
		}
	case "Cell":
		if m.i.Kind == inst.Tsp && n != 0 && len(m.cells)%(m.side+1) == 0 {
			return api.ErrForm
		}
		m.cells = append(m.cells, n)
	case "elem":
		l := &m.i.Sets[len(m.i.Sets)-1].Elems
		if n < 0 || n >= int64(m.i.Size) || len(*l) > 0 && n <= int64(slices.Max(*l)) {
			return api.ErrForm
		}
		*l = append(*l, int(n))
	}
	return api.OK
}

// run is what a text of some tokens is, and which token it fails at, if any.
func run(tokens []string) (inst.Inst, int, api.Errno) {
	m := model{to: []string{"kind"}}
	for at, x := range append(slices.Clip(tokens), "") {
		if e := m.step(x); e != api.OK {
			return inst.Inst{}, at, e
		}
	}
	for l := range slices.Chunk(m.cells, max(m.side, 1)) {
		m.i.Cost = append(m.i.Cost, l)
	}
	return m.i, -1, api.OK
}

// holds tests Parse of some tokens, with what parts them ahead of each and
// behind the last, against the model. It tells what the model did.
func holds(t *testing.T, tokens []string, parted func(at int) string) (int, api.Errno) {
	t.Helper()
	want, fault, wantErr := run(tokens)
	var wantAt lex.Pos
	s := ""
	for at, x := range append(slices.Clip(tokens), "") {
		s += parted(at)
		if at == fault {
			wantAt.Line, wantAt.Col = end(s)
		}
		s += x
	}
	got, at, e := Parse(s)
	if !inst.Equal(got, want) || at != wantAt || e != wantErr {
		t.Errorf("P10.1: Parse(%.300q) is %s, %v, %d; want %s, %v, %d", s, brief(got), at, e, brief(want), wantAt, wantErr)
	}
	if e == api.OK && got.Check() != api.OK {
		t.Errorf("P10.1: what Parse(%.300q) is mayn't be: %d", s, got.Check())
	}
	return fault, wantErr
}

// lines parts tokens by a blank, or by a line feed ahead of each third.
func lines(at int) string {
	if at%3 == 2 {
		return "\n"
	}
	return " "
}

// TestModelOfShortTexts: each text that may go on, of up to so many tokens,
// with each token behind it, and one more behind one at which it fails.
func TestModelOfShortTexts(t *testing.T) {
	for begin, rest := range map[string][]string{
		"":           {"knapsack", "assignment", "tsp", "cover", "capacity", "item", "row", "set", "x", ":", "0", "-1", "5"},
		"knapsack":   {"capacity", "item", "row", "set", "knapsack", "x", ":", "0", "3", "-1", "2147483648", "2147483649"},
		"assignment": {"row", "item", "assignment", "x", ":", "0", "1", "2", "-2147483648", "-2147483649"},
		"tsp":        {"row", "set", "tsp", "x", ":", "0", "1", "2", "-3", "2147483649"},
		"cover":      {"set", ":", "item", "cover", "x", "0", "1", "2", "3", "-1", "4097"},
	} {
		seen := map[api.Errno]int{}
		var on func(l []string, more int)
		on = func(l []string, more int) {
			for _, x := range rest {
				next := append(slices.Clip(l), x)
				fault, e := holds(t, next, lines)
				seen[e]++
				switch {
				case fault == len(next) && more > 1:
					on(next, more-1)
				case fault == -1 && more > 1:
					on(next, more-1)
				case fault == len(l):
					for _, tail := range rest {
						holds(t, append(slices.Clip(next), tail), lines)
					}
				}
			}
		}
		holds(t, strings.Fields(begin), lines)
		on(strings.Fields(begin), 8)
		if seen[api.OK] < 10 || seen[api.ErrForm] < 100 || seen[api.ErrLimit] < 10 {
			t.Errorf("of the texts that begin with %q so many were told: %v", begin, seen)
		}
	}
}

// chance is a row of numbers that are strewn.
type chance uint32

func (c *chance) below(n int) int {
	*c = *c*1664525 + 1013904223
	return int(*c>>8) % n
}

func (c *chance) amount() string {
	return []string{"0", "2147483648", strconv.Itoa(c.below(1000)), "00" + strconv.Itoa(c.below(1<<23))}[c.below(4)]
}

// whole are the tokens of an instance of a kind, of up to so many items, sets,
// or rows.
func (c *chance) whole(kind, most int) []string {
	l := strings.Fields([]string{"knapsack capacity", "assignment", "tsp", "cover"}[kind])
	switch kind {
	case 0:
		l = append(l, c.amount())
		for range c.below(most) {
			l = append(l, "item", c.amount(), c.amount())
		}
	case 1, 2:
		n := 1 + c.below(most)
		l = append(l, strconv.Itoa(n))
		for r := range n {
			l = append(l, "row")
			for at := range n {
				x := []string{"", "-"}[c.below(2)] + c.amount()
				if kind == 2 && r == at {
					x = []string{"0", "-0"}[c.below(2)]
				}
				l = append(l, x)
			}
		}
	case 3:
		size := c.below(20)
		l = append(l, strconv.Itoa(size))
		for range c.below(most) {
			l = append(l, "set", c.amount(), ":")
			for x := range size {
				if c.below(3) == 0 {
					l = append(l, strconv.Itoa(x))
				}
			}
		}
	}
	return l
}

// bent has one token more, one less, or another one, at some place.
func (c *chance) bent(l []string) []string {
	x := []string{
		"knapsack", "assignment", "tsp", "cover", "capacity", "item", "row", "set", "x", ":", "0", "1", "-1", "64", "65", "4096", "4097",
		"2147483648", "2147483649", "-2147483648", "-2147483649", "9223372036854775807", "-9223372036854775808",
	}[c.below(23)]
	at := c.below(len(l))
	switch c.below(3) {
	case 0:
		return slices.Insert(l, at, x)
	case 1:
		return slices.Delete(l, at, at+1)
	}
	l[at] = x
	return l
}

// TestModelOfStrewnTexts: instances, whole or bent at up to two places, whose
// tokens are parted by all that may part them.
func TestModelOfStrewnTexts(t *testing.T) {
	c := chance(1)
	seen := map[api.Errno]int{}
	blanks := []string{" ", "  ", "\t", "\n", "\r\n", "# caf\u00e9\n", " #\U0001f600 set -1\n\n\t", "\n \n"}
	for n := range 6000 {
		tokens := c.whole(n%4, []int{3, 8, 30}[n%3])
		for range n / 4 % 3 {
			tokens = c.bent(tokens)
		}
		_, e := holds(t, tokens, func(int) string { return blanks[c.below(len(blanks))] })
		seen[e]++
	}
	if seen[api.OK] < 2000 || seen[api.ErrForm] < 2000 || seen[api.ErrLimit] < 300 {
		t.Errorf("so many were told: %v", seen)
	}
}
