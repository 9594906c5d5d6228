package table_test

import (
	"math/rand"
	"slices"
	"testing"

	"dromond/api"
	"dromond/table"
)

// pair is an entry of the model.
type pair struct{ k, v int }

// model is what a table should be: its entries are gone through for every question.
type model struct {
	most int
	l    []pair
}

// at returns where k is, or -1.
func (m *model) at(k int) int {
	for i, x := range m.l {
		if x.k == k {
			return i
		}
	}
	return -1
}

func (m *model) put(k, v int) api.Errno {
	if i := m.at(k); i >= 0 {
		m.l[i].v = v
		return api.OK
	}
	if len(m.l) == max(m.most, 0) {
		return api.ErrFull
	}
	m.l = append(m.l, pair{k, v})
	return api.OK
}

func (m *model) drop(k int) bool {
	i := m.at(k)
	if i < 0 {
		return false
	}
	m.l = append(slices.Clone(m.l[:i]), m.l[i+1:]...)
	return true
}

func (m *model) push(k, v int) (int, bool) {
	if m.most <= 0 {
		return 0, false
	}
	if m.at(k) >= 0 || len(m.l) < m.most {
		m.put(k, v)
		return 0, false
	}
	gone := m.l[0].k
	m.drop(gone)
	m.put(k, v)
	return gone, true
}

// agree fails unless x and m have the same entries, no more than the capacity.
func agree(t *testing.T, x *table.Table[int, int], m *model) {
	t.Helper()
	keys := x.Keys()
	if len(keys) != len(m.l) || x.Len() != len(m.l) || x.Len() > max(m.most, 0) {
		t.Fatalf("capacity %d: %v, want %v", m.most, keys, m.l)
	}
	for i, want := range m.l {
		if v, ok := x.Get(want.k); keys[i] != want.k || v != want.v || !ok {
			t.Fatalf("capacity %d: %v, %d %t, want %v", m.most, keys, v, ok, m.l)
		}
	}
}

// P3.1, P3.2: any calls, in any order, answer as the model does; there are never more entries than the capacity.
func TestAnyCalls(t *testing.T) {
	r := rand.New(rand.NewSource(3))
	for most := -1; most <= 9; most++ {
		x, m := table.New[int, int](most), &model{most: most}
		for range 5000 {
			k, v := r.Intn(12), r.Intn(1000)
			switch r.Intn(5) {
			case 0, 1:
				if got, want := x.Put(k, v), m.put(k, v); got != want {
					t.Fatalf("put %d: %d, want %d", k, got, want)
				}
			case 2, 3:
				got, gone := x.Push(k, v)
				if want, wanted := m.push(k, v); got != want || gone != wanted {
					t.Fatalf("push %d: %d %t, want %d %t", k, got, gone, want, wanted)
				}
			case 4:
				if got, want := x.Drop(k), m.drop(k); got != want {
					t.Fatalf("drop %d: %t, want %t", k, got, want)
				}
			}
			agree(t, x, m)
			if _, ok := x.Get(k); ok != (m.at(k) >= 0) {
				t.Fatalf("get %d: %t", k, ok)
			}
		}
	}
}
