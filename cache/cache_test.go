package cache

import (
	"math"
	"math/rand"
	"slices"
	"strings"
	"testing"

	"compeer/api"
)

// times is numbers around the edges of what a time may be, and of the numbers.
func times() []int64 {
	var list []int64
	for _, edge := range []int64{0, 100, api.MaxTime, 1 << 41, 1 << 62, -100, -api.MaxTime} {
		for d := int64(-62); d <= 62; d++ {
			list = append(list, edge+d)
		}
	}
	return append(list, math.MinInt64, math.MinInt64+1, math.MinInt64+30, math.MaxInt64, math.MaxInt64-1, math.MaxInt64-30)
}

// isNear says it in another way: one of the sixty-one numbers around now is the time.
func isNear(now, time int64) bool {
	if now < 0 || now > 1<<40 || time < 0 || time > 1<<40 {
		return false
	}
	for d := int64(-30); d <= 30; d++ {
		if now+d == time {
			return true
		}
	}
	return false
}

func TestNear(t *testing.T) {
	for _, now := range times() {
		for _, time := range times() {
			if got := Near(now, time); got != isNear(now, time) || got != Near(time, now) {
				t.Fatalf("%d, %d: %v", now, time, got)
			}
		}
	}
	for _, c := range []struct {
		now, time int64
		near      bool
	}{
		{0, 0, true}, {0, 30, true}, {30, 0, true}, {0, 31, false}, {31, 0, false}, {100, 70, true}, {100, 69, false}, {100, 130, true}, {100, 131, false},
		{0, -1, false}, {-1, 0, false}, {-1, -1, false}, {29, -1, false},
		{1 << 40, 1 << 40, true}, {1 << 40, 1<<40 - 30, true}, {1 << 40, 1<<40 - 31, false}, {1 << 40, 1<<40 + 1, false}, {1<<40 + 1, 1 << 40, false}, {1<<40 + 1, 1<<40 + 1, false}, {1<<40 - 1, 1<<40 + 1, false},
		{math.MinInt64, math.MaxInt64, false}, {math.MaxInt64, math.MinInt64, false}, {math.MinInt64, math.MinInt64, false}, {math.MaxInt64, math.MaxInt64, false}, {math.MinInt64, 0, false}, {0, math.MinInt64, false},
	} {
		if Near(c.now, c.time) != c.near {
			t.Errorf("%d, %d: not %v", c.now, c.time, c.near)
		}
	}
}

// shows shows something and tells if another error comes than the one wanted, or if then another number is kept.
func shows(t *testing.T, c *Cache, now int64, client string, time, seq int64, want api.Errno, kept int) {
	t.Helper()
	if e := c.Show(now, client, time, seq); e != want || c.Len() != kept {
		t.Errorf("%q %d %d at %d: %d, not %d; %d kept, not %d", client, time, seq, now, e, want, c.Len(), kept)
	}
}

func TestExample(t *testing.T) {
	c := New(1)
	shows(t, c, 100, "a", 100, 1, api.OK, 1)
	shows(t, c, 100, "a", 100, 1, api.ErrReplay, 1)
	for now := int64(100); now <= 130; now++ {
		shows(t, c, now, "b", now, 1, api.ErrFull, 1)
		shows(t, c, now, "a", 100, 1, api.ErrReplay, 1)
	}
	shows(t, c, 131, "a", 100, 1, api.ErrSkew, 1)
	shows(t, c, 131, "b", 131, 1, api.OK, 1)
	shows(t, c, 131, "b", 131, 1, api.ErrReplay, 1)
	shows(t, c, 131, "a", 131, 1, api.ErrFull, 1)
}

// How many a cache takes: at least one, at most 64.
func TestMost(t *testing.T) {
	for most, want := range map[int]int{math.MinInt: 1, -1: 1, 0: 1, 1: 1, 2: 2, 5: 5, 63: 63, 64: 64, 65: 64, 1000: 64, math.MaxInt: 64} {
		c := New(most)
		if c.Len() != 0 {
			t.Errorf("%d: not empty", most)
		}
		for i := range want {
			shows(t, c, 50, "ann", 50, int64(i), api.OK, i+1)
		}
		for i := range want {
			shows(t, c, 50, "ann", 50, int64(i), api.ErrReplay, want)
		}
		for i := range 3 {
			shows(t, c, 50, "ann", 50, int64(want+i), api.ErrFull, want)
			shows(t, c, 80, "ann", 80, int64(want+i), api.ErrFull, want)
		}
		shows(t, c, 81, "ann", 81, 0, api.OK, 1)
	}
}

// What differs in the name, the time or the number is something else.
func TestWhatIsTheSame(t *testing.T) {
	names := []string{"", "a", "b", "ann", "Ann", "ann\x00", "\xff", "an", "ann1", strings.Repeat("a", 5000)}
	numbers := []int64{math.MinInt64, -1, 0, 1, 10, math.MaxInt64}
	for _, name := range names {
		for _, time := range []int64{71, 100, 130} {
			for _, seq := range numbers {
				c := New(2)
				shows(t, c, 100, name, time, seq, api.OK, 1)
				shows(t, c, 100, name, time, seq, api.ErrReplay, 1)
				for _, other := range names {
					if other != name {
						shows(t, c, 100, other, time, seq, api.OK, 2)
						shows(t, c, 100, other, time, seq, api.ErrReplay, 2)
						break
					}
				}
				shows(t, c, 100, name, time-1, seq, api.ErrFull, 2)
				shows(t, c, 100, name, time, seq^1, api.ErrFull, 2)
			}
		}
	}
	c := New(64)
	shows(t, c, 100, "a", 100, 12, api.OK, 1)
	shows(t, c, 100, "a1", 100, 2, api.OK, 2)
	shows(t, c, 100, "a", 101, 2, api.OK, 3)
	shows(t, c, 100, "a", 102, 100, api.OK, 4)
	shows(t, c, 100, "a", 100, 102, api.OK, 5)
	shows(t, c, 100, "a", 100, 2, api.OK, 6)
}

// A time that isn't near is told first, and changes nothing; so is and does what was shown.
func TestOrderOfErrors(t *testing.T) {
	c := New(2)
	shows(t, c, 100, "a", 70, 1, api.OK, 1)
	shows(t, c, 100, "a", 130, 1, api.OK, 2)
	shows(t, c, 101, "a", 70, 1, api.ErrSkew, 2) // also shown, and too old
	shows(t, c, 99, "a", 130, 1, api.ErrSkew, 2)
	shows(t, c, 5000, "b", 70, 1, api.ErrSkew, 2) // all would be forgotten
	shows(t, c, 5000, "b", 4969, 1, api.ErrSkew, 2)
	shows(t, c, 5000, "b", 5031, 1, api.ErrSkew, 2)
	shows(t, c, -1, "b", -1, 1, api.ErrSkew, 2)
	shows(t, c, -1, "b", 0, 1, api.ErrSkew, 2)
	shows(t, c, 1<<40+1, "b", 1<<40, 1, api.ErrSkew, 2)
	shows(t, c, math.MaxInt64, "b", math.MinInt64, 1, api.ErrSkew, 2)
	shows(t, c, 160, "a", 130, 1, api.ErrReplay, 2) // the first could be forgotten
	shows(t, c, 100, "a", 70, 1, api.ErrReplay, 2)  // and is not
	shows(t, c, 100, "a", 130, 1, api.ErrReplay, 2) // ahead of that there is no room
	shows(t, c, 100, "b", 100, 1, api.ErrFull, 2)   // nor is it kept
	shows(t, c, 100, "b", 100, 1, api.ErrFull, 2)
	shows(t, c, 101, "b", 101, 1, api.OK, 2)
	shows(t, c, 100, "a", 70, 1, api.ErrFull, 2) // was forgotten, and the time went back
}

// Things are forgotten one by one, each after its own time, and only when another one is taken.
func TestForgotten(t *testing.T) {
	c := New(64)
	for i := int64(0); i <= 60; i++ {
		shows(t, c, 100, "a", 70+i, 0, api.OK, int(i)+1)
	}
	for now := int64(101); now <= 160; now++ {
		shows(t, c, now, "b", now+30, 0, api.OK, 61)
		shows(t, c, now, "a", now-30, 0, api.ErrReplay, 61)
		shows(t, c, now, "a", now-31, 0, api.ErrSkew, 61)
	}
	shows(t, c, 161, "c", 191, 0, api.OK, 61)
	shows(t, c, 192, "c", 190, 0, api.OK, 31) // those from 162 on are left
	shows(t, c, 221, "c", 230, 0, api.OK, 2)
	shows(t, c, 222, "c", 222, 0, api.OK, 2)
	shows(t, c, 1<<40, "c", 1<<40, 0, api.OK, 1)
	shows(t, c, 1<<40, "c", 1<<40, 0, api.ErrReplay, 1)
}

// At the edges of time.
func TestEdgesOfTime(t *testing.T) {
	c := New(3)
	shows(t, c, 0, "a", 0, 0, api.OK, 1)
	shows(t, c, 0, "a", 30, 0, api.OK, 2)
	shows(t, c, 0, "a", 31, 0, api.ErrSkew, 2)
	shows(t, c, 0, "a", -1, 0, api.ErrSkew, 2)
	shows(t, c, 30, "a", 0, 0, api.ErrReplay, 2)
	shows(t, c, 31, "a", 1, 0, api.OK, 2)
	c.Clear()
	shows(t, c, 1<<40, "a", 1<<40, 0, api.OK, 1)
	shows(t, c, 1<<40, "a", 1<<40-30, 0, api.OK, 2)
	shows(t, c, 1<<40, "a", 1<<40+1, 0, api.ErrSkew, 2)
	shows(t, c, 1<<40, "a", 1<<40-31, 0, api.ErrSkew, 2)
	shows(t, c, 0, "a", 0, 0, api.OK, 3)
	shows(t, c, 0, "a", 1, 0, api.ErrFull, 3)
}

func TestClear(t *testing.T) {
	c := New(2)
	c.Clear()
	if c.Len() != 0 {
		t.Error("not empty")
	}
	for range 3 {
		shows(t, c, 10, "a", 10, 1, api.OK, 1)
		shows(t, c, 10, "a", 10, 2, api.OK, 2)
		shows(t, c, 10, "a", 10, 3, api.ErrFull, 2)
		c.Clear()
		if c.Len() != 0 {
			t.Error("not empty")
		}
	}
	shows(t, c, 10, "a", 10, 1, api.OK, 1)
}

// What is shown to one cache is nothing to another.
func TestCachesApart(t *testing.T) {
	a, b := New(1), New(1)
	shows(t, a, 10, "a", 10, 1, api.OK, 1)
	shows(t, b, 10, "a", 10, 1, api.OK, 1)
	b.Clear()
	shows(t, a, 10, "a", 10, 1, api.ErrReplay, 1)
	shows(t, b, 10, "a", 10, 1, api.OK, 1)
}

// shown is something that a plain cache keeps.
type shown struct {
	client    string
	time, seq int64
}

// plain is a cache that is told word by word what the document says.
type plain struct {
	most int
	kept []shown
}

func (p *plain) show(now int64, s shown) api.Errno {
	if !isNear(now, s.time) {
		return api.ErrSkew
	}
	for _, old := range p.kept {
		if old == s {
			return api.ErrReplay
		}
	}
	var young []shown
	for _, old := range p.kept {
		if old.time+30 >= now {
			young = append(young, old)
		}
	}
	p.kept = young
	if len(p.kept) == p.most {
		return api.ErrFull
	}
	p.kept = append(p.kept, s)
	return api.OK
}

// Random calls, with times that go on and sometimes back, held against the plain cache.
func TestByChance(t *testing.T) {
	dice := rand.New(rand.NewSource(12))
	told := map[api.Errno]int{}
	for range 300 {
		most := 1 + dice.Intn(64)
		if dice.Intn(2) == 0 {
			most = 1 + dice.Intn(4)
		}
		c, p := New(most), &plain{most: most}
		now := []int64{0, 1000, 1<<40 - 200}[dice.Intn(3)]
		for i := range 400 {
			now += []int64{0, 0, 0, 1, 1, 2, 10, 31, -1, -20}[dice.Intn(10)]
			s := shown{[]string{"ann", "bob", ""}[dice.Intn(3)], now - 32 + dice.Int63n(65), dice.Int63n(3)}
			if len(p.kept) > 0 && dice.Intn(3) == 0 {
				s = p.kept[dice.Intn(len(p.kept))]
			}
			want := p.show(now, s)
			told[want]++
			if e := c.Show(now, s.client, s.time, s.seq); e != want || c.Len() != len(p.kept) {
				t.Fatalf("call %d, %+v at %d: %d, not %d; %d kept, not %d", i, s, now, e, want, c.Len(), len(p.kept))
			}
			if dice.Intn(200) == 0 {
				c.Clear()
				p.kept = nil
			}
		}
	}
	for _, e := range []api.Errno{api.OK, api.ErrSkew, api.ErrReplay, api.ErrFull} {
		if told[e] < 1000 {
			t.Errorf("%d was told only %d times", e, told[e])
		}
	}
}

// As long as the time doesn't go back, nothing is taken twice, whatever is shown, and how often.
func TestNothingTwice(t *testing.T) {
	dice := rand.New(rand.NewSource(13))
	for _, most := range []int{1, 2, 3, 10, 64} {
		c := New(most)
		taken := map[shown]bool{}
		var all []shown
		now := int64(0)
		for range 20000 {
			now += []int64{0, 0, 0, 0, 1, 1, 3, 29, 30, 31, 32, 100}[dice.Intn(12)]
			s := shown{[]string{"ann", "bob"}[dice.Intn(2)], now - 31 + dice.Int63n(63), dice.Int63n(3)}
			if len(all) > 0 && dice.Intn(2) == 0 {
				s = all[max(0, len(all)-1-dice.Intn(100))]
			}
			e := c.Show(now, s.client, s.time, s.seq)
			if e == api.OK && taken[s] {
				t.Fatalf("%+v is taken twice, at %d", s, now)
			}
			if e == api.ErrReplay && !taken[s] {
				t.Fatalf("%+v was never taken, at %d", s, now)
			}
			if e == api.OK {
				taken[s] = true
				all = append(all, s)
			}
			if c.Len() > most {
				t.Fatalf("%d kept, of %d", c.Len(), most)
			}
		}
		for _, s := range all {
			if e := c.Show(now, s.client, s.time, s.seq); e != api.ErrSkew && e != api.ErrReplay {
				t.Fatalf("%+v at %d: %d", s, now, e)
			}
		}
		if !slices.ContainsFunc(all, func(s shown) bool { return s.time > 1000 }) {
			t.Error("the time didn't go on")
		}
	}
}
