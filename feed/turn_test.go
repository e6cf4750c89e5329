package feed_test

import (
	"math/rand"
	"slices"
	"testing"

	"snaffle/api"
	"snaffle/feed"
)

// taker is one whom notes come to, from a first number on: the next one goes on by what is ready.
type taker struct {
	first, next int64
	feed        api.Feed
	ready       []api.Note
	came        map[int64]bool
}

func newTaker(first int64) *taker {
	return &taker{first: first, next: first, came: map[int64]bool{}}
}

// told is the one note of a number, alike however often it comes.
func told(seq int64) api.Note { return note(seq, seq%40) }

// takes the note of a number, held to what P17.4 says.
func (k *taker) takes(t *testing.T, seq int64) {
	t.Helper()
	f, ready, err := does(t, k.feed, told(seq), k.next)
	if err != api.OK {
		t.Fatalf("note %d: %d", seq, err)
	}
	k.feed, k.ready, k.next = f, append(k.ready, ready...), k.next+int64(len(ready))
	k.came[seq] = true
	if !feed.Right(k.feed, k.next) {
		t.Fatalf("note %d: %s isn't right for %d", seq, shown(k.feed), k.next)
	}
	for i, n := range k.ready {
		if n != told(k.first+int64(i)) || !k.came[n.Seq] {
			t.Fatalf("note %d: %+v is ready in place %d from %d on", seq, n, i, k.first)
		}
	}
	if k.feed.Gap {
		return
	}
	if k.came[k.next] {
		t.Fatalf("note %d: %d came, and isn't ready; %s", seq, k.next, shown(k.feed))
	}
	for ahead := k.next + 1; ahead <= k.next+12; ahead++ {
		held := slices.Contains(k.feed.Held, told(ahead))
		if held != k.came[ahead] {
			t.Fatalf("note %d: %d came: %v; %s", seq, ahead, k.came[ahead], shown(k.feed))
		}
	}
}

// P17.4, the chapter's example: 5 comes, and 4, and 3.
func TestExample(t *testing.T) {
	k := newTaker(3)
	k.takes(t, 5)
	k.takes(t, 4)
	if len(k.ready) != 0 {
		t.Errorf("%+v is ready", k.ready)
	}
	k.takes(t, 3)
	if want := []api.Note{told(3), told(4), told(5)}; !slices.Equal(k.ready, want) || len(k.feed.Held) != 0 {
		t.Errorf("%+v; %s", k.ready, shown(k.feed))
	}
}

// P17.4: all ways in which six notes come from among the five next ones, some never, some twice.
func TestAllWays(t *testing.T) {
	for _, first := range []int64{1, 4, api.MaxLsn - 4} {
		for way := range 5 * 5 * 5 * 5 * 5 * 5 {
			k := newTaker(first)
			for range 6 {
				k.takes(t, first+int64(way%5))
				way /= 5
			}
			if k.feed.Gap {
				t.Fatalf("%s, though nothing was too far", shown(k.feed))
			}
		}
	}
}

// P17.4: as many as may be held come the other way round: all are held up to the next one; then all are ready.
func TestOtherWayRound(t *testing.T) {
	for _, first := range []int64{1, 70, api.MaxLsn - 8} {
		k := newTaker(first)
		for ahead := int64(8); ahead > 0; ahead-- {
			k.takes(t, first+ahead)
			if len(k.ready) != 0 || len(k.feed.Held) != int(9-ahead) || k.feed.Gap {
				t.Fatalf("%+v; %s", k.ready, shown(k.feed))
			}
		}
		k.takes(t, first)
		if len(k.ready) != 9 || len(k.feed.Held) != 0 || k.feed.Gap {
			t.Errorf("%+v; %s", k.ready, shown(k.feed))
		}
	}
}

// P17.4: drawn walks of notes that come late, twice, and never too far ahead: at the end all are ready.
func TestWalks(t *testing.T) {
	r := rand.New(rand.NewSource(17))
	for range 400 {
		many := int64(60)
		k := newTaker([]int64{1, 2, 1000, api.MaxLsn - many + 1}[r.Intn(4)])
		last := k.first + many - 1
		for k.next <= last {
			from := max(1, k.next-5)
			k.takes(t, from+r.Int63n(min(last, k.next+8)-from+1))
		}
		if len(k.ready) != int(many) || k.feed.Gap || len(k.feed.Held) != 0 {
			t.Fatalf("%d are ready; %s", len(k.ready), shown(k.feed))
		}
	}
}

// P17.4: drawn walks with notes that are too far ahead, too: none is ready out of its turn; and when the feed is mended
// and all come again in order, all are ready.
func TestGaps(t *testing.T) {
	r := rand.New(rand.NewSource(71))
	gaps := 0
	for range 400 {
		k := newTaker(1 + r.Int63n(3))
		last := k.first + 59
		for range 60 {
			k.takes(t, 1+r.Int63n(min(last, k.next+12)))
		}
		if k.feed.Gap {
			gaps++
		}
		k.feed = feed.Mend(k.feed)
		k.came = map[int64]bool{}
		for seq := int64(1); seq < k.next; seq++ {
			k.came[seq] = true
		}
		for _, n := range k.feed.Held {
			k.came[n.Seq] = true
		}
		for seq := k.next; seq <= last; seq++ {
			k.takes(t, seq)
		}
		if k.next != last+1 || k.feed.Gap || len(k.feed.Held) != 0 {
			t.Fatalf("next is %d of %d; %s", k.next, last, shown(k.feed))
		}
	}
	if gaps < 40 {
		t.Error(gaps, "walks had a gap")
	}
}
