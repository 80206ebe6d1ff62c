package zone_test

import (
	"math/rand"
	"slices"
	"strings"
	"testing"

	"zone/api"
	"zone/zone"
)

// wantFrame: Frame of l is this stream.
func wantFrame(t *testing.T, what string, l []string, want string) {
	t.Helper()
	if s, e := zone.Frame(l); e != api.OK || s != want {
		t.Errorf("P10: %s: Frame of %d messages = %.80x (%d bytes), %d, want %.80x (%d bytes)", what, len(l), s, len(s), e, want, len(want))
	}
}

func TestP10Frame(t *testing.T) {
	wantFrame(t, "the example", []string{"", "x"}, "\x00\x00\x00\x01x")
	wantFrame(t, "nil", nil, "")
	wantFrame(t, "an empty list", []string{}, "")
	wantFrame(t, "an empty message", []string{""}, "\x00\x00")
	wantFrame(t, "two empty messages", []string{"", ""}, "\x00\x00\x00\x00")
	wantFrame(t, "in order", []string{"b", "ca", "b"}, "\x00\x01b\x00\x02ca\x00\x01b")
	wantFrame(t, "bytes of any values", []string{"\xff\x00\x80", "\x00"}, "\x00\x03\xff\x00\x80\x00\x01\x00")
	for _, size := range []int{1, 255, 256, 257, 511, 512, 32768, 65534, 65535} {
		s := strings.Repeat("m", size)
		wantFrame(t, "a length", []string{s}, word(size)+s)
		wantFrame(t, "a length, twice", []string{s, "z", s}, word(size)+s+"\x00\x01z"+word(size)+s)
	}
}

func TestP10Long(t *testing.T) {
	for _, size := range []int{65536, 65537, 131072, 1 << 20} {
		long := strings.Repeat("m", size)
		for k, l := range [][]string{{long}, {long, "a"}, {"a", long}, {"a", long, ""}, {long, long}} {
			if s, e := zone.Frame(l); s != "" || e != api.ErrLong {
				t.Errorf("P10: a message of %d bytes, list %d: %.40x, %d, want ErrLong and nothing beside it", size, k, s, e)
			}
		}
	}
}

func TestP2Frame(t *testing.T) {
	l := []string{"b", "a", "spare", "room"}
	for range 2 {
		wantFrame(t, "P2", l[:2], "\x00\x01b\x00\x01a")
		if !slices.Equal(l, []string{"b", "a", "spare", "room"}) {
			t.Fatalf("P2: the list that was handed to Frame reads %q", l)
		}
	}
}

// modelFeed: the messages of all that was pushed, cut from its front, and what is left.
func modelFeed(all string) ([]string, int) {
	var l []string
	for len(all) >= 2 {
		size := int(all[0])<<8 | int(all[1])
		if len(all) < 2+size {
			break
		}
		l = append(l, all[2:2+size])
		all = all[2+size:]
	}
	return l, len(all)
}

// wantPushes: a new Feed gives of these chunks what modelFeed says, chunk by chunk.
func wantPushes(t *testing.T, what string, chunks []string) {
	t.Helper()
	x := zone.NewFeed()
	all, given := "", 0
	for k, c := range chunks {
		all += c
		want, left := modelFeed(all)
		got := x.Push(c)
		if !slices.Equal(got, want[given:]) || x.Left() != left {
			t.Fatalf("P11: %s: chunk %d (%.40x, %d bytes): %.80q, %d left, want %.80q, %d left", what, k, c, len(c), got, x.Left(), want[given:], left)
		}
		given = len(want)
	}
}

// wantGiven: so too, of a stream that is too long to be cut anew for each chunk.
func wantGiven(t *testing.T, what string, messages []string, size int) {
	t.Helper()
	s, e := zone.Frame(messages)
	if e != api.OK {
		t.Fatalf("P10: Frame tells %d", e)
	}
	x := zone.NewFeed()
	given, bytes := 0, 0
	for at := 0; at < len(s); at += size {
		end := min(at+size, len(s))
		for _, m := range x.Push(s[at:end]) {
			if given >= len(messages) || m != messages[given] {
				t.Fatalf("P11: %s, chunks of %d: message %d is %.40q", what, size, given, m)
			}
			given++
			bytes += 2 + len(m)
		}
		if x.Left() != end-bytes {
			t.Fatalf("P11: %s, chunks of %d: %d left at %d, want %d", what, size, x.Left(), end, end-bytes)
		}
		if given < len(messages) && x.Left() >= 2+len(messages[given]) {
			t.Fatalf("P11: %s, chunks of %d: message %d is whole at %d and was not given", what, size, given, end)
		}
	}
	if given != len(messages) || x.Left() != 0 {
		t.Errorf("P11: %s, chunks of %d: %d of %d messages, %d left", what, size, given, len(messages), x.Left())
	}
}

func TestP11Examples(t *testing.T) {
	x := zone.NewFeed()
	if x == nil || x.Left() != 0 {
		t.Fatalf("P11: a new Feed holds %d bytes", x.Left())
	}
	if l := x.Push("\x00"); len(l) != 0 || x.Left() != 1 {
		t.Errorf("P11: 0: %q, %d left", l, x.Left())
	}
	if l := x.Push("\x00\x00\x01x\x00"); !slices.Equal(l, []string{"", "x"}) || x.Left() != 1 {
		t.Errorf("P11: 0 0 1 120 0: %q, %d left", l, x.Left())
	}
	if l := x.Push(""); len(l) != 0 || x.Left() != 1 {
		t.Errorf("P11: nothing: %q, %d left", l, x.Left())
	}
	if l := x.Push("\x00"); !slices.Equal(l, []string{""}) || x.Left() != 0 {
		t.Errorf("P11: a message without bytes: %q, %d left", l, x.Left())
	}
}

func TestP11Cuts(t *testing.T) {
	s, _ := zone.Frame([]string{"", "x", "", "", "abc", strings.Repeat("y", 300), "\x00\x01", ""})
	s += "\x01\x02tail"
	wantPushes(t, "as one", []string{s})
	wantPushes(t, "byte by byte", strings.Split(s, ""))
	for i := range len(s) + 1 {
		wantPushes(t, "in two", []string{s[:i], s[i:]})
		wantPushes(t, "in two, with nothing between", []string{"", s[:i], "", "", s[i:], ""})
	}
	for i := range 30 {
		for j := i; j < len(s); j++ {
			wantPushes(t, "in three", []string{s[:i], s[i:j], s[j:]})
		}
	}
}

func TestP11Sizes(t *testing.T) {
	for _, size := range []int{0, 1, 2, 253, 254, 255, 256, 257, 258, 509, 510, 511, 512, 513, 514, 1000} {
		m := strings.Repeat("m", size)
		for _, chunk := range []int{1, 2, 3, 254, 255, 256, 257, 258, 512, 2000} {
			wantGiven(t, "sizes", []string{m, m + "1", "", m + "22"}, chunk)
		}
	}
}

func TestP11Great(t *testing.T) {
	great := strings.Repeat("0123456789abcde", 4369)
	if len(great) != api.MaxMessage {
		t.Fatalf("%d bytes", len(great))
	}
	for _, size := range []int{1, 2, 3, 255, 256, 257, 4096, 65535, 65536, 65537, 65538, 1 << 20} {
		wantGiven(t, "great messages", []string{great, "", great[:65534], "x", great}, size)
	}
	x := zone.NewFeed()
	if l := x.Push("\xff\xff" + great[1:]); len(l) != 0 || x.Left() != 65536 {
		t.Errorf("P11: all but one byte: %d messages, %d left", len(l), x.Left())
	}
	if l := x.Push("zz"); len(l) != 1 || l[0] != great[1:]+"z" || x.Left() != 1 {
		t.Errorf("P11: the last byte and one more: %d messages, %d left", len(l), x.Left())
	}
}

func TestP11Random(t *testing.T) {
	r := rand.New(rand.NewSource(4))
	for range 2000 {
		var chunks []string
		for range r.Intn(40) {
			b := make([]byte, r.Intn([]int{2, 6, 300}[r.Intn(3)]))
			for i := range b {
				b[i] = byte([]int{0, 0, 0, 1, 2, 5}[r.Intn(6)])
			}
			chunks = append(chunks, string(b))
		}
		wantPushes(t, "random", chunks)
	}
}

func TestP11Nil(t *testing.T) {
	var x *zone.Feed
	for _, c := range []string{"", "\x00\x00", "\x00\x01x", "\x00"} {
		if l := x.Push(c); len(l) != 0 || x.Left() != 0 {
			t.Errorf("P11: a nil Feed: Push(%x) gives %q, %d left", c, l, x.Left())
		}
	}
}

func TestP2Feeds(t *testing.T) {
	x, y := zone.NewFeed(), zone.NewFeed()
	x.Push("\x00\x03a")
	y.Push("\x00\x02")
	if x.Left() != 3 || y.Left() != 2 {
		t.Errorf("P2: two Feeds hold %d and %d", x.Left(), y.Left())
	}
	if l := x.Push("bc"); !slices.Equal(l, []string{"abc"}) || x.Left() != 0 || y.Left() != 2 {
		t.Errorf("P2: the first gives %q, they hold %d and %d", l, x.Left(), y.Left())
	}
	if l := y.Push("de"); !slices.Equal(l, []string{"de"}) || y.Left() != 0 {
		t.Errorf("P2: the second gives %q", l)
	}
}

// TestP2Copied: what a Feed takes does not come into a copy of it, however much both hold already.
func TestP2Copied(t *testing.T) {
	for _, held := range []int{0, 1, 2, 5, 100, 254, 255, 256, 257, 258, 300, 900} {
		x := zone.NewFeed()
		for range held {
			x.Push("h")
		}
		y := *x
		// The bytes hh are the length of the message.
		rest := 2 + 'h'*256 + 'h' - held
		head := strings.Repeat("h", max(0, 2-held))
		rest -= len(head)
		var ofX, ofY []string
		for _, c := range head + strings.Repeat("x", rest) {
			ofX = append(ofX, x.Push(string(c))...)
			ofY = append(ofY, y.Push(strings.ReplaceAll(string(c), "x", "y"))...)
		}
		start := strings.Repeat("h", max(0, held-2))
		if !slices.Equal(ofX, []string{start + strings.Repeat("x", rest)}) || !slices.Equal(ofY, []string{start + strings.Repeat("y", rest)}) {
			t.Errorf("P2: a Feed that held %d bytes and its copy give %.300q and %.300q", held, ofX, ofY)
		}
	}
}

func TestP2Pushed(t *testing.T) {
	x := zone.NewFeed()
	first := x.Push("\x00\x01a\x00\x01b\x00\x01c\x00\x02d")
	want := slices.Clone(first)
	full := first[:cap(first)]
	for i := range full {
		full[i] = "spoilt"
	}
	second := x.Push("e\x00\x01f\x00")
	if !slices.Equal(second, []string{"de", "f"}) || x.Left() != 1 {
		t.Errorf("P2: behind a list that was written into come %q, %d left", second, x.Left())
	}
	copy(first, want)
	full = second[:cap(second)]
	for i := range full {
		full[i] = "spoilt"
	}
	if !slices.Equal(first, []string{"a", "b", "c"}) {
		t.Errorf("P2: what was written into a later list changed the first: %q", first)
	}
}
