package reorder_test

import (
	"math"
	"testing"

	"confluence/api"
)

func TestU6Wrong(t *testing.T) {
	x := begun(t, 1000, 100)
	x.commitsNot(1, api.ErrReorderXid)
	x.begin(1, 1)
	x.part(2, 1, 2)
	x.part(3, 1, 3)
	x.back(3)
	x.unchanged("Commit", func() {
		for _, xid := range []int{0, -1, 2, 3, 4, api.MaxXid, api.MaxXid + 1, math.MinInt, math.MaxInt} {
			x.commitsNot(xid, api.ErrReorderXid)
		}
	})
	// None of them has opened a stream.
	x.add(bare(4, 2))
	x.whole(1, bare(4, 2))
	x.commitsNot(1, api.ErrReorderXid)
	x.clean()
}

// TestU6NoChange: a transaction without changes, with parts and without.
func TestU6NoChange(t *testing.T) {
	for _, limit := range []int{0, never} {
		x := begun(t, 1000, limit)
		x.begin(1, 1)
		x.whole(1)
		x.begin(1, 2)
		x.part(2, 1, 3)
		x.part(3, 2, 4)
		x.back(3)
		x.whole(1)
		x.counts(0, 0, 0, 0)
		x.clean()
	}
}

// TestU6Between: transactions whose changes stand between one another, each told whole, in any order of commits.
func TestU6Between(t *testing.T) {
	for _, order := range [][]int{{1, 2, 3}, {3, 2, 1}, {2, 3, 1}, {3, 1, 2}} {
		for _, limit := range []int{0, 50, 100, 200, 400, never} {
			x := begun(t, 100000, limit)
			want := map[int][]api.Change{}
			for xid := 1; xid <= 3; xid++ {
				x.begin(xid, xid)
			}
			x.part(4, 2, 4)
			for i := range 40 {
				c := full(10+i, 1+i*i%4)
				x.add(c)
				whole := c.Xid
				if whole == 4 {
					whole = 2
				}
				want[whole] = append(want[whole], c)
			}
			for _, xid := range order {
				x.whole(xid, want[xid]...)
			}
			x.clean()
		}
	}
}

// TestU6Others: what another transaction has at hand, or in files, is neither told nor held nor forgotten.
func TestU6Others(t *testing.T) {
	x := begun(t, 100000, 96)
	x.begin(1, 1)
	x.begin(2, 2)
	x.add(bares(2, 3, 4, 5)...)
	x.add(bare(6, 1), bare(7, 2))
	x.counts(64, 2, 1, 2)
	s := x.commit(1)
	x.counts(64, 2, 1, 2)
	x.tells(s, bare(6, 1))
	x.counts(32, 1, 1, 2)
	x.nothing(s, api.OK)
	x.counts(32, 1, 1, 1)
	x.lists("spill.a.2.0")
	x.oldest(2)
	x.add(bare(8, 2))
	x.whole(2, bares(2, 3, 4, 5, 7, 8)...)
	x.clean()
}

// TestU7Held: one of each segment is held, by the sizes that they have.
func TestU7Held(t *testing.T) {
	x := begun(t, 100000, 100)
	x.begin(1, 1)
	x.add(sized(2, 1, 40), sized(3, 1, 60))
	x.add(sized(4, 1, 50), sized(5, 1, 45))
	x.add(sized(6, 1, 100))
	x.add(sized(7, 1, 36))
	x.counts(36, 1, 3, 1)
	x.segment(1, 0, sized(2, 1, 40), sized(3, 1, 60))
	x.segment(1, 1, sized(4, 1, 50), sized(5, 1, 45))
	x.segment(1, 2, sized(6, 1, 100))
	s := x.commit(1)
	x.counts(40+50+100+36, 4, 3, 1)
	x.tells(s, sized(2, 1, 40))
	x.counts(60+50+100+36, 4, 3, 1)
	x.tells(s, sized(3, 1, 60))
	x.counts(50+100+36, 3, 3, 1)
	x.tells(s, sized(4, 1, 50))
	x.counts(45+100+36, 3, 3, 1)
	x.tells(s, sized(5, 1, 45))
	x.counts(100+36, 2, 3, 1)
	x.tells(s, sized(6, 1, 100))
	x.counts(36, 1, 3, 1)
	x.tells(s, sized(7, 1, 36))
	x.counts(0, 0, 3, 1)
	x.lists("spill.a.1.0", "spill.a.1.1", "spill.a.1.2")
	x.nothing(s, api.OK)
	x.counts(0, 0, 3, 0)
	x.clean()
}

// TestU7Ended: a stream that has ended says so for ever, whatever its buffer does, also when its number is told again.
func TestU7Ended(t *testing.T) {
	x := begun(t, 100000, 0)
	x.begin(1, 1)
	x.add(bare(2, 1), bare(3, 1))
	first := x.commit(1)
	x.tells(first, bare(2, 1), bare(3, 1))
	x.nothing(first, api.OK)
	x.begin(1, 4)
	x.nothing(first, api.OK)
	x.add(bare(5, 1), bare(6, 1))
	x.nothing(first, api.OK)
	x.counts(32, 1, 2, 1)
	second := x.commit(1)
	x.nothing(first, api.OK)
	x.closed()
	x.tells(second, bare(5, 1))
	x.nothing(first, api.OK)
	x.tells(second, bare(6, 1))
	x.nothing(first, api.OK)
	x.counts(0, 0, 2, 1)
	x.nothing(second, api.OK)
	x.kill()
	x.nothing(first, api.OK)
	x.nothing(second, api.OK)
	x.revive()
	x.clean()
}

// TestU7Memory: parts' changes at hand stand between those of one another and of the files.
func TestU7Memory(t *testing.T) {
	x := begun(t, 100000, 160)
	x.begin(1, 1)
	x.part(2, 1, 2)
	x.part(3, 2, 3)
	x.part(4, 1, 4)
	x.add(bare(10, 3), bare(11, 1), bare(12, 4), bare(13, 2), bare(14, 1))
	x.add(bare(15, 4), bare(16, 3), bare(17, 2), bare(18, 1), bare(19, 4))
	x.counts(160, 5, 1, 1)
	s := x.commit(1)
	x.counts(192, 6, 1, 1)
	x.tells(s, bare(10, 3), bare(11, 1), bare(12, 4), bare(13, 2), bare(14, 1), bare(15, 4), bare(16, 3))
	x.counts(96, 3, 1, 1)
	x.tells(s, bare(17, 2), bare(18, 1), bare(19, 4))
	x.nothing(s, api.OK)
	x.clean()
}

// TestU6OtherNumbers: what a file tells of another number is passed over, wherever it stands: of one that was taken back, of another transaction, of its part, of nobody.
func TestU6OtherNumbers(t *testing.T) {
	for _, stranger := range []int{3, 4, 5, 6, api.MaxXid} {
		for place := range 3 {
			x := begun(t, 100000, 64)
			x.begin(1, 1)
			x.part(2, 1, 2)
			x.part(3, 1, 3)
			x.begin(4, 4)
			x.part(5, 4, 5)
			own := []api.Change{bare(10, 1), bare(11, 2)}
			x.add(own...)
			x.add(bare(12, 1))
			x.back(3)
			l := append([]api.Change{}, own[:place]...)
			l = append(l, full(7, stranger), full(13, stranger))
			x.replace("spill.a.1.0", written(t, append(l, own[place:]...)...))
			s := x.commit(1)
			x.counts(64, 2, 1, 2)
			x.tells(s, own[0])
			x.counts(64, 2, 1, 2)
			x.tells(s, own[1])
			x.counts(32, 1, 1, 2)
			x.tells(s, bare(12, 1))
			x.nothing(s, api.OK)
			x.whole(4)
			x.clean()
		}
	}
}

// TestU6OtherNumbersAlone: a file that tells of others alone holds nothing.
func TestU6OtherNumbersAlone(t *testing.T) {
	for _, stranger := range []int{3, 4, 5, 6, api.MaxXid} {
		x := begun(t, 100000, 0)
		x.begin(1, 1)
		x.part(3, 1, 2)
		x.begin(4, 3)
		x.part(5, 4, 4)
		x.add(bare(10, 1), bare(11, 1))
		x.back(3)
		x.replace("spill.a.1.0", written(t, bares(stranger, 7, 10, 12)...))
		s := x.commit(1)
		x.counts(32, 1, 1, 2)
		x.tells(s, bare(11, 1))
		x.nothing(s, api.OK)
		x.abort(4)
		x.clean()
	}
}

// TestU6OtherOrder: a file that somebody changed may tell anything of the right numbers: the least of what is held and of what is at hand is told.
func TestU6OtherOrder(t *testing.T) {
	x := begun(t, 100000, 0)
	x.begin(1, 1)
	x.add(bares(1, 10, 20, 30)...)
	x.replace("spill.a.1.0", written(t, bare(40, 1), full(5, 1), full(25, 1)))
	s := x.commit(1)
	x.counts(96, 3, 2, 1)
	x.tells(s, bare(20, 1), bare(30, 1), bare(40, 1))
	x.counts(sizeOf(full(5, 1)), 1, 2, 1)
	x.tells(s, full(5, 1), full(25, 1))
	x.nothing(s, api.OK)
	x.clean()
}

// TestU6Empty: a file without bytes is a segment without changes.
func TestU6Empty(t *testing.T) {
	x := begun(t, 100000, 0)
	x.begin(1, 1)
	x.add(bares(1, 2, 3, 4)...)
	is(t, "Truncate", x.d.Truncate("spill.a.1.0", 0), api.OK)
	s := x.commit(1)
	x.counts(64, 2, 2, 1)
	x.tells(s, bares(1, 3, 4)...)
	x.nothing(s, api.OK)
	x.clean()
}
