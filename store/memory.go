package store

import (
	"confluence/api"
	"confluence/catalog"
	"confluence/mvcc"
	"confluence/value"
	"confluence/xact"
)

// memory is what a store knows while it is open. All of it but the active transactions can be had again of the base and the log.
type memory struct {
	tables  *catalog.Catalog
	xacts   *xact.Manager
	heap    *mvcc.Heap
	active  map[int]*transaction
	waiting map[string]int // the prepared transactions, by their names
	origins map[string]int
	based   int // the position of the base
	young   int // how many records were done since the last sweep
	old     int // how much that sweep left
}

// transaction is an active one.
type transaction struct {
	xid        int
	snapshot   api.Snapshot
	savepoints []savepoint
}

type savepoint struct {
	name string
	part int
}

// remember makes a memory that knows these tables and next number, and nothing else.
func remember(tables *catalog.Catalog, next int) memory {
	xacts, _ := xact.New(next)
	return memory{
		tables:  tables,
		xacts:   xacts,
		heap:    mvcc.New(xacts),
		active:  map[int]*transaction{},
		waiting: map[string]int{},
		origins: map[string]int{},
	}
}

// blank is the memory of a store without anything.
func blank() memory { return remember(catalog.New(), 1) }

// around is the part in which the savepoint of a place stands, or the transaction's own number.
func (x *transaction) around(place int) int {
	if place == 0 {
		return x.xid
	}
	return x.savepoints[place-1].part
}

// writer is the number under which it writes.
func (x *transaction) writer() int { return x.around(len(x.savepoints)) }

// transaction is the active one of a number.
func (m *memory) transaction(xid int) (*transaction, api.Errno) {
	x := m.active[xid]
	if x == nil {
		return nil, api.ErrStoreNone
	}
	return x, api.OK
}

// view is what an active transaction sees, or, for 0, what is seen by whoever comes now.
func (m *memory) view(xid int) (api.Snapshot, api.Errno) {
	if xid == 0 {
		return m.xacts.Snapshot(), api.OK
	}
	x, e := m.transaction(xid)
	if e != api.OK {
		return api.Snapshot{}, e
	}
	return x.snapshot, api.OK
}

// leave lets a transaction that is over be neither active nor waiting.
func (m *memory) leave(xid int) {
	delete(m.active, xid)
	for name, x := range m.waiting {
		if x == xid {
			delete(m.waiting, name)
		}
	}
}

// keyOf is the key of a row that fits a table, as the heap has it.
func keyOf(t api.Table, r api.Row) string {
	key, _ := value.Key(r[t.Key])
	return key
}
