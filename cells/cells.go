// Package cells is layer 1: see shared/doc/01-cells.md.
package cells

import (
	"slices"

	"stileman/api"
)

// Memory is a row of words, numbered from 0 on.
type Memory struct {
	words []uint32
}

// New makes a memory of n cells, all 0.
func New(n int) (*Memory, api.Errno) {
	if n < 0 || n > api.MaxCells {
		return nil, api.ErrRange
	}
	return &Memory{words: make([]uint32, n)}, api.OK
}

// From makes a memory with the words of l.
func From(l ...uint32) (*Memory, api.Errno) {
	if len(l) > api.MaxCells {
		return nil, api.ErrRange
	}
	// A caller that hands in a list of its own may write it over later.
	return &Memory{words: slices.Clone(l)}, api.OK
}

// Len tells how many cells there are.
func (m *Memory) Len() int {
	if m == nil {
		return 0
	}
	return len(m.words)
}

// Load answers the word of c.
func (m *Memory) Load(c int) uint32 {
	a, _ := m.Do(api.Access{Kind: api.ALoad, Cell: c})
	return a.Old
}

// Store makes the word of c x.
func (m *Memory) Store(c int, x uint32) {
	m.Do(api.Access{Kind: api.AStore, Cell: c, X: x})
}

// Add makes the word of c x more, and answers what it was.
func (m *Memory) Add(c int, x uint32) uint32 {
	a, _ := m.Do(api.Access{Kind: api.AAdd, Cell: c, X: x})
	return a.Old
}

// Swap makes the word of c x, and answers what it was.
func (m *Memory) Swap(c int, x uint32) uint32 {
	a, _ := m.Do(api.Access{Kind: api.ASwap, Cell: c, X: x})
	return a.Old
}

// Cas makes the word of c y, if it is x, and answers what it was, and whether it was x.
func (m *Memory) Cas(c int, x, y uint32) (uint32, bool) {
	a, ok := m.Do(api.Access{Kind: api.ACas, Cell: c, X: x, Y: y})
	return a.Old, ok && a.Old == x
}

// Do does the access a, and answers it with what was there ahead of it.
func (m *Memory) Do(a api.Access) (api.Access, bool) {
	if a.Cell < 0 || a.Cell >= m.Len() {
		return api.Access{}, false
	}
	a.Old = m.words[a.Cell]
	left, ok := behind(a)
	if !ok {
		return api.Access{}, false
	}
	m.words[a.Cell] = left
	return a, true
}

// All answers all words.
func (m *Memory) All() []uint32 {
	if m == nil {
		return nil
	}
	return slices.Clone(m.words)
}

// behind tells the word that the access a leaves where a.Old was; false: its kind is none.
func behind(a api.Access) (uint32, bool) {
	left := a.X
	switch a.Kind {
	case api.AAdd:
		left += a.Old
		fallthrough // the sum is put where the word was, as a swap puts X
	case api.AStore, api.ASwap:
		return left, true
	case api.ACas:
		if a.Old == a.X {
			return a.Y, true
		}
		fallthrough // one that finds another word leaves it, as a load does
	case api.ALoad:
		return a.Old, true
	}
	return 0, false
}
