package link_test

import (
	"testing"

	"confluence/api"
)

func TestExample1(t *testing.T) {
	s, r := sender(t, 100), receiver(t, 100)
	put(t, s, 120, "a", "b")
	put(t, s, 130, "c")
	f := s.Frames()
	if len(f) != 2 || f[0] != frameOf(100, 120, 0, 1, "a", "b") || f[1] != frameOf(120, 130, 0, 1, "c") {
		t.Fatalf("Frames: %q", f)
	}
	takesNot(t, r, f[1], api.ErrLinkGap)
	takes(t, r, f[0], 120, "a", "b")
	takesNot(t, r, f[0], api.ErrLinkOld)
	takes(t, r, f[1], 130, "c")
	is(t, "Done", r.Done(120), api.OK)
	if r.Word() != wordOf(120) {
		t.Errorf("Word: %q", r.Word())
	}
	confirms(t, s, r.Word(), 120)
	if n := s.Left(); n != 1 {
		t.Errorf("Left: %d", n)
	}
	is(t, "Done", r.Done(131), api.ErrLinkOrder)
}

func TestExample2(t *testing.T) {
	s, r := sender(t, 100), receiver(t, 100)
	a, b, c := chars("a", 3000), chars("b", 3000), chars("c", 3000)
	put(t, s, 130, a, b, c)
	f := s.Frames()
	if len(f) != 3 {
		t.Fatalf("%d frames", len(f))
	}
	waits(t, r, f[2])
	waits(t, r, f[0])
	takes(t, r, f[1], 130, a, b, c)
	putsNot(t, s, 130, []string{a}, api.ErrLinkOrder)
}

func TestExample3(t *testing.T) {
	s := sender(t, 0)
	confirms(t, s, wordOf(500), 500)
	put(t, s, 400, "x")
	keeps(t, s, 500)
	put(t, s, 600, "y")
	keeps(t, s, 500, transaction{400, 600, []string{"y"}})
}

// TestBytes: a frame and a word, written out.
func TestBytes(t *testing.T) {
	s, r := sender(t, 5), receiver(t, 300)
	put(t, s, 300, "hi", "")
	want := "LD\x05\xac\x02\x00\x01\x02\x02hi\x00"
	if f := s.Frames(); len(f) != 1 || f[0] != sealed(want) {
		t.Errorf("Frames: %q, want %q and its check", f, want)
	}
	if w := r.Word(); w != sealed("LW\xac\x02") {
		t.Errorf("Word: %q", w)
	}
	if w := sealed("123456789"); w != "123456789\x83\x92\x06\xe3" {
		t.Errorf("the check is %q", w)
	}
}
