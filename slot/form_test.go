package slot_test

import (
	"fmt"
	"math/rand"
	"slices"
	"strings"
	"testing"

	"confluence/api"
	"confluence/publish"
	"confluence/slot"
)

// noForm holds that a file of these bytes is no slots', that it is left as it is, and that no act is done.
func noForm(t *testing.T, what, bytes string) {
	t.Helper()
	d := loaded(t, room, slotsFile(bytes))
	is(t, "Arm", d.Arm(1), api.OK)
	if s, e := slot.Open(d); s != nil || e != api.ErrSlotForm {
		t.Errorf("%s: %q: %d, want %d", what, bytes[:min(len(bytes), 300)], e, api.ErrSlotForm)
	}
	if d.Dead() || !slices.Equal(bytesOf(d), []api.File{slotsFile(bytes)}) {
		t.Errorf("%s: the disk was written", what)
	}
}

func TestL1Bytes(t *testing.T) {
	p := api.Publication{Name: "p", Tables: []api.Published{{Table: "t", Kinds: 15, Columns: []string{"a"}, Filter: "n"}}}
	body := "SL\x01" + "\x02ab" + "\xa8\x46" + "\x80\x40" + "\x0b" + "\x01p" + "\x01" + "\x01t" + "\x0f\x01" + "\x01a" + "\x01n"
	d := loaded(t, room)
	s := opened(t, d)
	is(t, "Create", s.Create(api.Slot{Name: "ab", Publication: p, Confirmed: 9000, Restart: first}), api.OK)
	holds(t, d, slotsFile(sealed(body)))
	is(t, "Drop", s.Drop("ab"), api.OK)
	holds(t, d, slotsFile(sealed("SL\x00")))
}

func TestL1Empty(t *testing.T) {
	for what, bytes := range map[string]string{
		"nothing": "", "S": "S", "SL": "SL", "SL and a count": "SL\x00", "noughts": strings.Repeat("\x00", 100), "other letters": sealed("LS\x00"), "small letters": sealed("sl\x00"),
		"no letters": sealed("\x00"), "a check alone": sealed(""), "letters and a check": sealed("SL"), "the letters twice": sealed("SLSL\x00"), "many letters": strings.Repeat("SL", 5000), "a great one": strings.Repeat("\xff", 500000),
	} {
		noForm(t, what, bytes)
	}
}

// TestL1CutSpoiltAndLonger: each beginning, each byte with each other value, some bytes more.
func TestL1CutSpoiltAndLonger(t *testing.T) {
	for n := range 4 {
		right := fileOf(some(n)...)
		finds(t, loaded(t, room, slotsFile(right)), some(n)...)
		for i := range right {
			noForm(t, "cut", right[:i])
			noForm(t, "a byte left out", right[:i]+right[i+1:])
			for b := 1; b < 256; b++ {
				noForm(t, "spoilt", right[:i]+char(int(right[i])^b)+right[i+1:])
			}
		}
		for b := range 256 {
			noForm(t, "longer", right+char(b))
			noForm(t, "longer ahead", char(b)+right)
			noForm(t, "longer ahead of the check", sealed(right[:len(right)-4]+char(b)))
		}
		noForm(t, "twice", right+right)
		noForm(t, "much longer", right+strings.Repeat("\x00", 100000))
		noForm(t, "the check twice", sealed(right))
	}
}

// TestL1CutAndSealed: each beginning with a check of its own, which is right only where slots end and so many are counted.
func TestL1CutAndSealed(t *testing.T) {
	for n := range 4 {
		right := fileOf(some(n)...)
		body := right[:len(right)-4]
		for i := range body {
			noForm(t, "cut and sealed", sealed(body[:i]))
		}
	}
}

func TestL1AnotherCheck(t *testing.T) {
	right := fileOf(some(2)...)
	body, check := right[:len(right)-4], right[len(right)-4:]
	noForm(t, "the highest byte first", body+char(int(check[3]))+char(int(check[2]))+char(int(check[1]))+char(int(check[0])))
	noForm(t, "a check of what is behind the letters", body+sealed(body[2:])[len(body)-2:])
	noForm(t, "a check of the slots alone", body+sealed(body[3:])[len(body)-3:])
	noForm(t, "no check", body)
	noForm(t, "noughts", body+"\x00\x00\x00\x00")
	var turned string
	for i := range check {
		turned += char(^int(check[i]))
	}
	noForm(t, "all its bits turned", body+turned)
}

func TestL1Counts(t *testing.T) {
	var bytes []string
	l := some(8)
	for _, x := range l {
		bytes = append(bytes, slotOf(x))
	}
	for n := range 9 {
		for count := range 256 {
			if count != n {
				noForm(t, fmt.Sprint(n, " slots, ", count, " counted"), counted(count, bytes[:n]...))
			}
		}
		finds(t, loaded(t, room, slotsFile(counted(n, bytes[:n]...))), l[:n]...)
	}
	for n := 9; n <= 20; n++ {
		noForm(t, fmt.Sprint(n, " slots"), fileOf(some(n)...))
	}
	noForm(t, "none, and bytes", counted(0, "\x00"))
}

func TestL1Order(t *testing.T) {
	a, b, c := one("a", 9000, 9000), one("aa", 9000, 9000), one("b", 9000, 9000)
	right := [][]api.Slot{{a, b, c}, {a, c}, {one("a_", first, first), b}, {one("a9", first, first), one("a_", first, first), b}, {one("z", first, first), one("z0", first, first)}}
	for _, l := range right {
		finds(t, loaded(t, room, slotsFile(fileOf(l...))), l...)
		back := slices.Clone(l)
		slices.Reverse(back)
		noForm(t, "falling names", fileOf(back...))
	}
	for _, l := range [][]api.Slot{{a, a}, {a, c, b}, {b, a, c}, {c, a, b}, {a, b, b}, {a, a, b}, {a, b, a}} {
		noForm(t, "names that do not rise", fileOf(l...))
	}
	other := one("a", 9001, first)
	other.Publication = widest()
	noForm(t, "a name twice", fileOf(a, other))
	eight := some(8)
	eight[7].Name = eight[6].Name
	noForm(t, "the last name twice", fileOf(eight...))
}

// wrongSlots have each one thing wrong.
func wrongSlots() []api.Slot {
	var l []api.Slot
	for _, name := range noNames {
		x := one("m", 9000, first)
		x.Name = name
		l = append(l, x)
	}
	for _, p := range wrongPublications() {
		x := one("m", 9000, first)
		x.Publication = p
		l = append(l, x)
	}
	for _, n := range noPositions {
		l = append(l, one("m", n, first), one("m", n, n), one("m", top, n))
	}
	return append(l, one("m", 9000, 9001), one("m", first, top), one("m", first, first+1), one("m", top-1, top))
}

// rightSlots are at the edges of what one may be.
func rightSlots() []api.Slot {
	l := []api.Slot{one("a", first, first), one("a", first+1, first), one("a", top, first), one("a", top, top), one("a", top, top-1), one("a", top-1, top-1), one("a", 16383, 16384-1), one("a", 16384, 16383), one("a", 2097152, 2097151), one("a", 268435456, 268435455)}
	for _, name := range names {
		l = append(l, one(name, 9000, first))
	}
	x := one("a", top, top)
	x.Name, x.Publication = strings.Repeat("n", 16), widest()
	return append(l, x)
}

func TestL1WrongSlots(t *testing.T) {
	for _, x := range wrongSlots() {
		// Numbers below 0 have no digits: what stands for them is a file of another kind.
		what := fmt.Sprintf("%.40q %d %d", x.Name, x.Confirmed, x.Restart)
		if x.Confirmed >= 0 && x.Restart >= 0 {
			noForm(t, what, fileOf(x))
			noForm(t, what+" among others", counted(3, slotOf(one("a", 9000, first)), slotOf(x), slotOf(one("z", 9000, first))))
		}
	}
}

func TestL1RightSlots(t *testing.T) {
	for _, x := range rightSlots() {
		finds(t, loaded(t, room, slotsFile(fileOf(x))), x)
	}
	var l []api.Slot
	for i := range 8 {
		x := one("a", top, top)
		x.Name, x.Publication = strings.Repeat("n", 15)+string(rune('a'+i)), widest()
		l = append(l, x)
	}
	finds(t, loaded(t, room, slotsFile(fileOf(l...))), l...)
}

// TestL1Forms: each number and length in more bytes than it needs, and lengths that are too great.
func TestL1Forms(t *testing.T) {
	x := one("a", 9000, first)
	name, confirmed, restart, p := textOf("a"), digits(9000), digits(first), publicationOf(x.Publication)
	finds(t, loaded(t, room, slotsFile(counted(1, name, confirmed, restart, textOf(p)))), x)
	for what, l := range map[string][]string{
		"the name's length longer":        {longer(1) + "a", confirmed, restart, textOf(p)},
		"Confirmed longer":                {name, longer(9000), restart, textOf(p)},
		"Restart longer":                  {name, confirmed, longer(first), textOf(p)},
		"the publication's length longer": {name, confirmed, restart, longer(len(p)) + p},
		"a length within it longer":       {name, confirmed, restart, textOf(longer(2) + p[1:])},
		"Confirmed too great":             {name, strings.Repeat("\xff", 9), restart, textOf(p)},
		"Restart too great":               {name, confirmed, strings.Repeat("\xff", 8) + "\x7f", textOf(p)},
		"Confirmed with its sign folded":  {name, digits(2 * 9000 * 50000), restart, textOf(p)},
		"the name too long by far":        {digits(1<<40) + "a", confirmed, restart, textOf(p)},
		"the publication too long by far": {name, confirmed, restart, digits(1<<40) + p},
		"no publication":                  {name, confirmed, restart},
		"an empty publication":            {name, confirmed, restart, textOf("")},
		"a publication and a byte":        {name, confirmed, restart, textOf(p + "\x00")},
		"a publication without a byte":    {name, confirmed, restart, textOf(p[:len(p)-1])},
		"a publication of 5000 bytes":     {name, confirmed, restart, textOf(p + strings.Repeat("x", 5000-len(p)))},
		"a publication of 5001 bytes":     {name, confirmed, restart, textOf(p + strings.Repeat("x", 5001-len(p)))},
		"a publication by its bytes":      {name, confirmed, restart, p},
		"Restart ahead of Confirmed":      {name, restart, confirmed, textOf(p)},
		"no name":                         {confirmed, restart, textOf(p)},
		"the publication ahead":           {name, textOf(p), confirmed, restart},
	} {
		noForm(t, what, counted(1, l...))
	}
}

// ruled is the slots of a file by the chapter's words: what is taken in some way must be right, and laid down again be the same bytes.
func ruled(s string) ([]api.Slot, bool) {
	if len(s) < 7 || s[2] > 8 {
		return nil, false
	}
	var l []api.Slot
	rest := s[3:]
	for range s[2] {
		var x api.Slot
		x.Name, rest = looseText(rest)
		x.Confirmed, rest = looseNumber(rest)
		x.Restart, rest = looseNumber(rest)
		p := ""
		p, rest = looseText(rest)
		x.Publication, _ = publish.DecodePublication(p)
		l = append(l, x)
	}
	for i, x := range l {
		if !ruledRight(x) || i > 0 && x.Name <= l[i-1].Name {
			return nil, false
		}
	}
	return l, fileOf(l...) == s
}

func ruledRight(x api.Slot) bool {
	return ruledName(x.Name) && publish.Right(x.Publication) == api.OK && ruledPlaces(x.Confirmed, x.Restart)
}

func ruledName(s string) bool {
	if len(s) < 1 || len(s) > 16 || strings.Trim(s, "abcdefghijklmnopqrstuvwxyz0123456789_") != "" {
		return false
	}
	return strings.Contains("abcdefghijklmnopqrstuvwxyz", s[:1]) && !strings.ContainsFunc(s, func(r rune) bool { return r > 'z' || r == '`' })
}

func ruledPlaces(confirmed, restart int) bool {
	return 8192 <= restart && restart <= confirmed && confirmed <= 819208192
}

func looseNumber(s string) (int, string) {
	n := 0
	for i := range min(len(s), 8) {
		n += int(s[i]%128) << (7 * i)
		if s[i] < 128 {
			return n, s[i+1:]
		}
	}
	return 0, ""
}

func looseText(s string) (string, string) {
	n, rest := looseNumber(s)
	n = min(n, len(rest))
	return rest[:n], rest[n:]
}

// anyBytes holds what Open says of a file against the rules.
func anyBytes(t *testing.T, bytes string) bool {
	t.Helper()
	l, ok := ruled(bytes)
	if !ok {
		noForm(t, "by the rules", bytes)
		return false
	}
	finds(t, loaded(t, room, slotsFile(bytes)), l...)
	return true
}

// TestL1EachByteSealed: each byte with each other value, under a check that is right.
func TestL1EachByteSealed(t *testing.T) {
	right := 0
	for n := 1; n <= 2; n++ {
		whole := fileOf(some(n)...)
		body := whole[:len(whole)-4]
		for i := range body {
			for b := range 256 {
				if anyBytes(t, sealed(body[:i]+char(b)+body[i+1:])) {
					right++
				}
			}
		}
	}
	if right < 2000 {
		t.Errorf("only %d of them were slots", right)
	}
}

// TestL1AnyBytes: random bytes, and right ones of which some were changed, left out or put in, mostly under a right check.
func TestL1AnyBytes(t *testing.T) {
	source := rand.New(rand.NewSource(19))
	right := 0
	for range 20000 {
		whole := fileOf(some(source.Intn(4))...)
		body := whole[:len(whole)-4]
		for range source.Intn(3) {
			body = nudged(source, body)
		}
		switch source.Intn(8) {
		case 0:
			b := make([]byte, source.Intn(60))
			source.Read(b)
			body = []string{"", "SL", "SL\x01", "SL\x00"}[source.Intn(4)] + string(b)
		case 1:
			anyBytes(t, body)
			continue
		}
		if anyBytes(t, sealed(body)) {
			right++
		}
	}
	if right < 4000 || right > 16000 {
		t.Errorf("%d were slots", right)
	}
}

// nudged has a byte changed, left out or put in.
func nudged(source *rand.Rand, s string) string {
	if s == "" {
		return "x"
	}
	i := source.Intn(len(s))
	b := char([]int{0, 1, 2, 3, 4, 8, 9, 64, 97, 98, 127, 128, 129, 255}[source.Intn(14)])
	switch source.Intn(4) {
	case 0:
		return s[:i] + s[i+1:]
	case 1:
		return s[:i] + b + s[i:]
	default:
		return s[:i] + b + s[i+1:]
	}
}
