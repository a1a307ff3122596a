package deheap

import (
	"secateur/iheap"
	"secateur/key"
	"secateur/mmheap"
)

// ends is what holds a heap's entries, and can do the same for either kind.
type ends interface {
	Len() int
	Push(x key.Entry)
	Min() (key.Entry, bool)
	Max() (key.Entry, bool)
	PopMin() (key.Entry, bool)
	PopMax() (key.Entry, bool)
	List() []key.Entry
}

// build makes what holds the entries of a heap of a kind.
func build(k Kind, l []key.Entry) ends {
	if k == Interval {
		return iheap.Build(l)
	}
	return mmheap.Build(l)
}

// kindOf is the kind that build was asked for.
func kindOf(e ends) Kind {
	if _, ok := e.(*iheap.Heap); ok {
		return Interval
	}
	return MinMax
}
