package history_test

import (
	"fmt"
	"math/rand"
	"slices"
	"testing"

	"confluence/api"
)

// TestExamples: those of the chapter.
func TestExamples(t *testing.T) {
	narrow := api.Table{ID: 1, Version: 1, Name: "t", Columns: []api.Column{id}}
	wide := api.Table{ID: 1, Version: 2, Name: "t", Columns: []api.Column{id, flag}}
	x := begun(t, 100, narrow)
	x.put(200, wide)
	x.at(narrow, 199)
	x.at(wide, 200, 1000)
	x.none(1, 99)
	x.gone(300, 1)
	x.none(1, 300)
	x.at(wide, 299)
	x.puts(300, wide, api.ErrHistoryOrder)
	x.noted(3)
	x.trims(250, 1, 2)
	x.none(1, 249)
	x.at(wide, 250)
	x.trims(300, 2, 0)
	x.lists(300)
}

// past is a history, and what it told of each position when that was the last one.
type past struct {
	*bench
	source            *rand.Rand
	begin, last, made int
	told              map[int][]string
}

func (p *past) telling(lsn int) []string { return telling(p.h, upTo(7), []int{lsn}) }

// passed notes what is told of the positions that are not above the last one any more.
func (p *past) passed(last int) {
	for lsn := p.last + 1; lsn <= last; lsn++ {
		p.told[lsn] = p.telling(lsn)
	}
	p.last = max(p.last, last)
}

// step is some call.
func (p *past) step() string {
	lsn := p.last + 1 + p.source.Intn(4)
	number := 1 + p.source.Intn(5)
	switch p.source.Intn(10) {
	case 0, 1, 2, 3:
		p.made++
		p.put(lsn, table(number, p.made))
	case 4, 5, 6:
		if p.h.Gone(lsn, number) != api.OK {
			return "Gone of none"
		}
	case 7, 8:
		lsn = p.begin + p.source.Intn(p.last-p.begin+1)
		p.h.Trim(lsn)
		p.begin = lsn
		return fmt.Sprint("Trim ", lsn)
	default:
		p.h.Trim(lsn)
		p.begin = lsn
	}
	p.passed(lsn)
	return fmt.Sprint("a call at ", lsn)
}

// TestT5: what is told of a position that is not above the last one is the same behind every later call, till it is below the beginning.
func TestT5(t *testing.T) {
	for seed := range 60 {
		p := &past{bench: begun(t, 10, tables(1, 3)...), source: rand.New(rand.NewSource(int64(seed))), begin: 10, last: 9, told: map[int][]string{}}
		p.passed(10)
		for range 60 {
			what := p.step()
			for lsn := p.begin; lsn <= p.last; lsn++ {
				if got := p.telling(lsn); !slices.Equal(got, p.told[lsn]) {
					t.Fatalf("behind %s, of the position %d: %q, was %q", what, lsn, got, p.told[lsn])
				}
			}
			if t.Failed() {
				return
			}
		}
	}
}

// TestT5PositionsThatAreStillToCome: they are told as all is now, and as it is then, when it has changed.
func TestT5PositionsThatAreStillToCome(t *testing.T) {
	x := begun(t, 100, table(1, 1))
	x.at(table(1, 1), 150, 500)
	x.put(200, table(1, 2))
	x.at(table(1, 1), 150)
	x.at(table(1, 2), 500)
	x.trims(300, 1, 1)
	x.at(table(1, 2), 300, 500)
	x.gone(400, 1)
	x.at(table(1, 2), 300, 399)
	x.none(1, 500)
}
