package world

import (
	"slices"
	"strings"
	"testing"

	"billet/api"
	"billet/intent"
	"billet/wal"
)

// What no events lead to in the time that a test has: the end of the time, what is in transit but is no message, and a disk on which there is no store.

// W1: EvTick does not lead beyond 2^40, nor does EvRound.
func TestTimeEnds(t *testing.T) {
	const end = 1099511627776
	for _, c := range []struct{ before, a, after int }{
		{end - 150, 100, end - 50}, {end - 150, 1000, end - 50}, {end - 100, 100, end}, {end - 99, 100, end}, {end - 99, 98, end - 1},
		{end - 1, 1, end}, {end - 1, 2, end}, {end - 1, 100, end}, {end - 1, 0, end - 1}, {end, 0, end}, {end, 1, end}, {end, 100, end}, {end, -1, end}, {end - 1, -1, end - 1},
	} {
		w := New()
		w.time = c.before
		w.Do(api.Event{What: api.EvTick, A: c.a})
		if w.Time() != c.after {
			t.Errorf("%d ticks behind %d: %d; not %d", c.a, c.before, w.Time(), c.after)
		}
	}
	for before, after := range map[int]int{end - 2: end - 1, end - 1: end, end: end} {
		w := New()
		w.time = before
		w.Do(api.Event{What: api.EvRound, A: 50, Skew: 2})
		if w.Time() != after {
			t.Errorf("a round behind %d: %d; not %d", before, w.Time(), after)
		}
	}
}

// W1, W2: at the end of the time everything goes on, though leases mean nothing any more.
func TestAtTheEnd(t *testing.T) {
	w := New()
	w.time = api.MaxTime - 40
	w.Do(api.Event{What: api.EvStart, Skew: 2})
	w.Do(api.Event{What: api.EvCellStart})
	for _, o := range []api.Op{{Kind: api.OpAddNode, Node: api.Node{ID: "n", Slots: 2}}, {Kind: api.OpSubmit, Work: api.Work{ID: "a", Want: 3, PerNode: 4, PerCell: 4}}} {
		s, _ := intent.PutOp(o)
		if w.Do(api.Event{What: api.EvAsk, Text: s}) != "\x00" {
			t.Error("not OK")
		}
	}
	for range 36 {
		w.Do(api.Event{What: api.EvRound})
	}
	if want := []api.Bind{{Work: "a", Node: "n", Count: 2}}; !slices.Equal(w.Running(0, 0), want) {
		t.Error(w.Running(0, 0))
	}
	for i := range 100 {
		w.Do(api.Event{What: api.EvRound, Skew: i%5 - 2})
		w.Running(0, i%5-2)
	}
	if w.Time() != api.MaxTime {
		t.Error(w.Time())
	}
}

// W1, W2: a text that is no message is delivered to nobody, and looks like an empty message.
func TestNoMessages(t *testing.T) {
	for _, s := range []string{"", "junk", "\x00", strings.Repeat("a", 5000)} {
		w := New()
		w.Do(api.Event{What: api.EvStart})
		w.Do(api.Event{What: api.EvCellStart})
		for range 3 {
			w.bag.Send(s)
		}
		if m, there := w.Look(1); !there || m.Kind != 0 || len(m.Binds) != 0 || w.Under() != 3 {
			t.Error(m, there)
		}
		w.Do(api.Event{What: api.EvDeliver, A: 1})
		if w.Under() != 2 {
			t.Error(w.Under())
		}
		w.Do(api.Event{What: api.EvRound})
		if w.Under() != 4 || w.Do(api.Event{What: api.EvAsk, Text: "\x12"}) != "\x00" {
			t.Error(w.Under())
		}
	}
}

// W1: where no store can be opened, the placer stays down, until one can.
func TestNoStore(t *testing.T) {
	last, _ := intent.PutState(api.State{Epoch: api.MaxTime})
	for _, spoil := range []func(w *World){
		func(w *World) { w.disk.Append("snap", "junk") },
		func(w *World) {
			// Behind so many starts there is no number for another one.
			log, _, _, _ := wal.Open(w.disk)
			log.Checkpoint(last)
		},
	} {
		w := New()
		w.Do(api.Event{What: api.EvStart})
		if _, up := w.State(); !up {
			t.Error("down")
		}
		spoil(w)
		w.disk.Sync("snap")
		for range 2 {
			w.Do(api.Event{What: api.EvStart})
			if _, up := w.State(); up || w.Do(api.Event{What: api.EvAsk, Text: "\x12"}) != "" {
				t.Error("up")
			}
			w.Do(api.Event{What: api.EvPlacer})
			if w.Under() != 0 {
				t.Error(w.Under())
			}
		}
		w.disk.Remove("snap")
		w.disk.Remove("log")
		w.Do(api.Event{What: api.EvStart})
		if s, up := w.State(); !up || s.Epoch != 1 {
			t.Error(s, up)
		}
	}
}
