package store

import "confluence/api"

// rest is how many records are done, at least, between two sweeps.
const rest = 64

// count notes that a record was done, which may have left a version or a number that nobody needs. A sweep comes when
// there may be as many of them as the last one left: so all sweeps together cost no more than what is done.
func (m *memory) count() {
	m.young++
	if m.young > m.old+rest {
		m.sweep()
	}
}

// sweep forgets the versions that nobody sees any more, and the numbers below all that anybody looks at.
func (m *memory) sweep() {
	below := m.xacts.Snapshot().Min
	var looking []api.Snapshot
	for _, x := range m.active {
		looking = append(looking, x.snapshot)
		below = min(below, x.snapshot.Min)
	}
	m.heap.Vacuum(looking)
	m.xacts.Forget(below)
	m.young = 0
	m.old = m.heap.Versions() + m.xacts.Next() - below
}
