package store_test

import (
	"encoding/binary"
	"hash/adler32"
	"math"
	"math/rand"
	"reflect"
	"slices"
	"strconv"
	"strings"
	"testing"
	"unsafe"

	"billet/api"
	"billet/disk"
	"billet/intent"
	"billet/store"
	"billet/wal"
)

// top is the greatest number of a record, and the greatest Epoch.
const top = 1099511627776

// Short forms for tables: of operations, of workloads and of nodes.
func submit(id string) api.Op          { return api.Op{Kind: 1, Work: work(id)} }
func scale(id string, want int) api.Op { return api.Op{Kind: 2, ID: id, Want: want} }
func add(id string) api.Op             { return api.Op{Kind: 4, Node: node(id)} }
func named(kind int, id string) api.Op { return api.Op{Kind: kind, ID: id} }
func epoch() api.Op                    { return api.Op{Kind: 8} }
func node(id string) api.Node          { return api.Node{ID: id, Cell: 1, Slots: 2, Labels: "disk=ssd"} }
func work(id string) api.Work {
	return api.Work{ID: id, Want: 3, Prio: 1, PerNode: 2, PerCell: 5, Selector: "disk"}
}

// number is the encoding of a number, by Go's library.
func number(n int) string { return string(binary.AppendVarint(nil, int64(n))) }

// entry is the frame of a number and a text, one of the log or the checkpoint, by Go's library.
func entry(n int, text string) string {
	payload := number(n) + text
	s := number(len(payload)) + payload
	return s + string(binary.BigEndian.AppendUint32(nil, adler32.Checksum([]byte(s))))
}

// entries are the frames of records whose numbers begin with first.
func entries(first int, records ...string) string {
	s := ""
	for i, record := range records {
		s += entry(first+i, record)
	}
	return s
}

// recordOf and textOf are chapter 12's encodings.
func recordOf(o api.Op) string {
	s, e := intent.PutOp(o)
	if e != api.OK {
		panic("no operation")
	}
	return s
}

func textOf(s api.State) string {
	text, e := intent.PutState(s)
	if e != api.OK {
		panic("no state")
	}
	return text
}

// recordsOf are the encodings of operations.
func recordsOf(ops ...api.Op) []string {
	var all []string
	for _, o := range ops {
		all = append(all, recordOf(o))
	}
	return all
}

// logOf is the frames of operations, whose numbers begin with first.
func logOf(first int, ops ...api.Op) string { return entries(first, recordsOf(ops...)...) }

// follow is the state to which operations lead that have no error.
func follow(s api.State, ops ...api.Op) api.State {
	for _, o := range ops {
		next, e := intent.Apply(s, o)
		if e != api.OK {
			panic("no state behind it")
		}
		s = next
	}
	return s
}

// reach is the state to which operations lead from the empty state.
func reach(ops ...api.Op) api.State { return follow(api.State{}, ops...) }

// at is a state in another Epoch.
func at(epoch int, s api.State) api.State {
	s.Epoch = epoch
	return s
}

// same reports whether two states are equal.
func same(a, b api.State) bool {
	return a.Epoch == b.Epoch && slices.Equal(a.Works, b.Works) && slices.Equal(a.Nodes, b.Nodes)
}

// stored is a disk with files (a name, bytes, a name, ..), which are synced.
func stored(files ...string) *disk.Disk {
	d := disk.New()
	for i := 0; i < len(files); i += 2 {
		d.Append(files[i], files[i+1])
		d.Sync(files[i])
	}
	return d
}

// contents are the names and bytes of all files of a disk with power.
func contents(d *disk.Disk) map[string]string {
	all := map[string]string{}
	for _, name := range d.List() {
		all[name], _ = d.Read(name)
	}
	return all
}

// alike reports whether two disks show the same.
func alike(a, b *disk.Disk) bool {
	return a.Off() == b.Off() && a.Acts() == b.Acts() && slices.Equal(a.List(), b.List()) && reflect.DeepEqual(contents(a), contents(b))
}

// holds tells if a disk has other files than it should have.
func holds(t *testing.T, what string, d *disk.Disk, files ...string) {
	t.Helper()
	if got, want := contents(d), contents(stored(files...)); !reflect.DeepEqual(got, want) {
		t.Errorf("%s: the disk has %q, not %q", what, got, want)
	}
}

// want tells if an error is another one than it should be.
func want(t *testing.T, what string, got, want api.Errno) {
	t.Helper()
	if got != want {
		t.Errorf("%s: %d, not %d", what, got, want)
	}
}

// is tells if a store has another state or another error than it should have.
func is(t *testing.T, what string, s *store.Store, state api.State, errno api.Errno) {
	t.Helper()
	if got := s.State(); !same(got, state) || s.Error() != errno {
		t.Errorf("%s: %v %d, not %v %d", what, got, s.Error(), state, errno)
	}
}

// opened opens a store, which has this state and no error.
func opened(t *testing.T, what string, d *disk.Disk, state api.State) *store.Store {
	t.Helper()
	s, e := store.Open(d)
	if s == nil || e != api.OK {
		t.Fatalf("Open of %s: %v, %d", what, s != nil, e)
	}
	is(t, "Open of "+what, s, state, api.OK)
	return s
}

// refused tells if Open of a disk answers anything but an error.
func refused(t *testing.T, what string, d *disk.Disk, errno api.Errno) {
	t.Helper()
	if s, e := store.Open(d); s != nil || e != errno {
		t.Errorf("Open of %s: %v, %d, not %d", what, s != nil, e, errno)
	}
}

// untouched tells if Open of a disk answers anything but an error, or does anything to the disk.
func untouched(t *testing.T, what string, d *disk.Disk, errno api.Errno) {
	t.Helper()
	before, acts := contents(d), d.Acts()
	for range 2 {
		refused(t, what, d, errno)
	}
	if d.Acts() != acts || !reflect.DeepEqual(contents(d), before) {
		t.Errorf("Open of %s: %d actions; %q, not %q", what, d.Acts()-acts, contents(d), before)
	}
}

// The calls of a store (one at a time on a disk), and what happens to its disk between them.
const (
	doOpen = iota
	doOp
	doArm
	doRestart
	doPut
	doSync
	doRemove
)

// call is one of them with its arguments.
type call struct {
	kind       int
	op         api.Op
	name, text string
	n          int
	keep       []int
}

// Short forms for tables. put, sync and remove are what somebody else does to the disk, behind which the store has to be opened again.
func open() call                 { return call{kind: doOpen} }
func do(o api.Op) call           { return call{kind: doOp, op: o} }
func arm(n int) call             { return call{kind: doArm, n: n} }
func restart(keep ...int) call   { return call{kind: doRestart, keep: keep} }
func put(name, text string) call { return call{kind: doPut, name: name, text: text} }
func sync(name string) call      { return call{kind: doSync, name: name} }
func remove(name string) call    { return call{kind: doRemove, name: name} }

// dos are the calls of operations.
func dos(ops ...api.Op) []call {
	var all []call
	for _, o := range ops {
		all = append(all, do(o))
	}
	return all
}

// answer is what a call answers, and what the store shows behind it.
type answer struct {
	errno  api.Errno
	isOpen bool
	state  api.State
	failed api.Errno
}

func (a answer) equals(b answer) bool {
	return a.errno == b.errno && a.isOpen == b.isOpen && same(a.state, b.state) && a.failed == b.failed
}

// outside is what happens to a disk between a store's calls; it reports whether c is of that kind, and whether the store is still the disk's only writer.
func outside(d *disk.Disk, c call) (done, alone bool) {
	switch c.kind {
	case doArm:
		d.Arm(c.n)
		return true, true
	case doRestart:
		d.Restart(c.keep)
		return true, true
	case doPut:
		d.Append(c.name, c.text)
		return true, false
	case doSync:
		d.Sync(c.name)
		return true, false
	case doRemove:
		d.Remove(c.name)
		return true, false
	}
	return false, true
}

// real is a disk and the store that is open on it, if one is.
type real struct {
	d *disk.Disk
	s *store.Store
}

// perform makes a call; without a store, Do is left out.
func (r *real) perform(c call) answer {
	var a answer
	if done, alone := outside(r.d, c); done {
		if !alone {
			r.s = nil
		}
	} else if c.kind == doOpen {
		r.s, a.errno = store.Open(r.d)
	} else if r.s != nil {
		a.errno = r.s.Do(c.op)
	}
	if r.s != nil {
		a.isOpen, a.state, a.failed = true, r.s.State(), r.s.Error()
	}
	return a
}

// model is a store by the chapter's words, whose log's Append and Checkpoint are actions of a disk of its own.
type model struct {
	d      *disk.Disk
	isOpen bool
	state  api.State
	seq    int // the number of the last record
	marked int // and of the last one that the checkpoint replaces
	failed api.Errno
}

// perform is what the chapter says of a call.
func (m *model) perform(c call) answer {
	var a answer
	if done, alone := outside(m.d, c); done {
		m.isOpen = m.isOpen && alone
	} else if c.kind == doOpen {
		a.errno = m.open()
		m.isOpen = a.errno == api.OK
	} else if m.isOpen {
		a.errno = m.do(c.op)
	}
	if m.isOpen {
		a.isOpen, a.state, a.failed = true, m.state, m.failed
	}
	return a
}

// open is S1.
func (m *model) open() api.Errno {
	*m = model{d: m.d}
	w, text, records, e := wal.Open(m.d)
	if e != api.OK {
		return e
	}
	m.seq, m.marked = w.Seq(), w.Seq()-len(records)
	if text != "" {
		if m.state, e = intent.GetState(text); e != api.OK {
			return 110
		}
	}
	for _, record := range records {
		o, e := intent.GetOp(record)
		if e != api.OK {
			return 110
		}
		if m.state, e = intent.Apply(m.state, o); e != api.OK {
			return 110
		}
	}
	return m.do(epoch())
}

// do is S2.
func (m *model) do(o api.Op) api.Errno {
	if m.failed != api.OK {
		return m.failed
	}
	next, e := intent.Apply(m.state, o)
	if e != api.OK {
		return e
	}
	if m.seq == top {
		return 111
	}
	if m.failed = m.addSynced("log", entry(m.seq+1, recordOf(o))); m.failed != api.OK {
		return m.failed
	}
	m.seq, m.state = m.seq+1, next
	if m.seq-m.marked >= 8 {
		m.failed, m.marked = m.mark(textOf(next)), m.seq
	}
	return api.OK
}

func (m *model) addSynced(name, s string) api.Errno {
	if e := m.d.Append(name, s); e != api.OK {
		return e
	}
	return m.d.Sync(name)
}

// mark is chapter 11's Checkpoint behind a record.
func (m *model) mark(text string) api.Errno {
	if e := m.addSynced("new", entry(m.seq, text)); e != api.OK {
		return e
	}
	if e := m.d.Rename("new", "snap"); e != api.OK {
		return e
	}
	return m.d.Remove("log")
}

// checkAll makes calls on a store and on the model, each on a new disk, and compares each answer and what the disks show behind each call, and what is left behind a Restart that keeps nothing of what is not synced.
func checkAll(t *testing.T, calls []call) {
	t.Helper()
	r, m := &real{d: disk.New()}, &model{d: disk.New()}
	calls = append(slices.Clone(calls), restart(), open())
	for i, c := range calls {
		got, want := r.perform(c), m.perform(c)
		if got.equals(want) && alike(r.d, m.d) {
			continue
		}
		t.Errorf("%v: %v, not %v; %d actions, not %d; %q, not %q", calls[:i+1], got, want, r.d.Acts(), m.d.Acts(), contents(r.d), contents(m.d))
		return
	}
}

// The chapter's example; S1, S2, S3.
func TestExample(t *testing.T) {
	d := disk.New()
	s := opened(t, "empty disk", d, api.State{Epoch: 1})
	ops := []api.Op{add("n"), submit("a"), submit("b"), scale("a", 5), named(6, "n"), named(7, "n"), named(3, "b")}
	for i, o := range ops {
		want(t, "Do", s.Do(o), api.OK)
		is(t, "Do", s, follow(api.State{Epoch: 1}, ops[:i+1]...), api.OK)
		if isMarked := slices.Equal(d.List(), []string{"snap"}); isMarked != (i == 6) || !isMarked && !slices.Equal(d.List(), []string{"log"}) {
			t.Error(i, d.List())
		}
	}
	all := reach(append([]api.Op{epoch()}, ops...)...)
	holds(t, "example", d, "snap", entry(8, textOf(all)))
	opened(t, "example", d, at(2, all))
	holds(t, "example", d, "snap", entry(8, textOf(all)), "log", logOf(9, epoch()))
}

// S1: no disk, and a disk without power, whatever it has.
func TestOpenNothing(t *testing.T) {
	refused(t, "nil", nil, api.ErrArg)
	for _, d := range []*disk.Disk{disk.New(), stored("log", logOf(1, epoch())), stored("new", "x"), stored("log", "bad"), stored("snap", "bad"), stored("snap", entry(1, "bad"))} {
		before := contents(d)
		d.Arm(1)
		d.Sync("log")
		untouched(t, "disk without power", d, api.ErrDiskPower)
		if d.Restart(nil); !reflect.DeepEqual(contents(d), before) {
			t.Errorf("%q", contents(d))
		}
	}
}

// S1: what chapter 11's Open refuses, the store refuses too, with the same error, and with nothing more done to the disk.
func TestOpenNoLog(t *testing.T) {
	good, all := logOf(1, epoch(), add("n")), logOf(1, epoch(), add("n"))+"\x02"
	for _, files := range [][]string{
		{"log", "\x01"}, {"log", good + "\x01"}, {"log", good + good}, {"log", logOf(2, epoch())}, {"snap", good}, {"snap", ""}, {"snap", "\x02"},
		{"snap", entry(-1, "")}, {"snap", entry(top+1, "")}, {"snap", entry(1, textOf(reach(epoch())))[1:]}, {"new", "x", "log", "\x01"}, {"new", "x", "snap", ""},
		{"snap", entry(1, "bad"), "log", "\x01"},
	} {
		twin, d := stored(files...), stored(files...)
		_, _, _, e := wal.Open(twin)
		refused(t, "no log", d, e)
		if e != api.ErrWalForm || !alike(d, twin) {
			t.Errorf("%q: %d; %d actions, not %d; %q, not %q", files, e, d.Acts(), twin.Acts(), contents(d), contents(twin))
		}
	}
	files := []string{"log", all, "x", "", "y", "", "z", ""}
	d := stored(files...)
	refused(t, "full disk", d, api.ErrDiskFull)
	holds(t, "full disk", d, files...)
	d.Remove("x")
	opened(t, "disk with room", d, at(2, reach(epoch(), add("n"))))
	for n := 1; n <= 4; n++ {
		d := stored("new", "x", "log", all)
		d.Arm(n)
		refused(t, "power off", d, api.ErrDiskPower)
		if d.Acts() != 4+n {
			t.Error(n, d.Acts())
		}
		d.Restart(nil)
		opened(t, "mended disk", d, at(2, reach(epoch(), add("n"))))
	}
}

// someStates are valid states.
func someStates() []api.State {
	largest := api.State{Epoch: top - 1}
	for i := range 8 {
		c := strings.Repeat(string(rune('a'+i)), 12)
		largest.Works = append(largest.Works, api.Work{ID: c, Want: 16, Prio: 9, PerNode: 16, PerCell: 16, Selector: "aaaaaaaaaaaa!=" + c + ",b!=" + c + ",c!=" + c + ",d!=" + c})
		largest.Nodes = append(largest.Nodes, api.Node{ID: c, Cell: 2, Slots: 4, Labels: "aaaaaaaaaaaa=" + c + ",b=" + c + ",c=" + c + ",d=" + c, Cordoned: true})
	}
	return []api.State{
		{}, {Epoch: 1}, {Epoch: 63}, {Epoch: 64}, {Epoch: 1 << 31}, {Epoch: top - 1}, reach(submit("a")), reach(add("n")), reach(epoch(), add("n"), named(6, "n")),
		reach(submit("b"), submit("a"), add("n"), add("m"), scale("a", 16), epoch(), epoch()), largest,
	}
}

// S1: the state comes from the checkpoint, whatever its number is; without a text, or without a checkpoint, it is the empty one.
func TestOpenCheckpoint(t *testing.T) {
	for _, n := range []int{0, 1, 7, 8, 64, 1 << 31, top - 1} {
		for _, state := range someStates() {
			snap := entry(n, textOf(state))
			d := stored("snap", snap)
			opened(t, "checkpoint", d, at(state.Epoch+1, state))
			holds(t, "checkpoint", d, "snap", snap, "log", logOf(n+1, epoch()))
		}
		d := stored("snap", entry(n, ""))
		opened(t, "empty checkpoint", d, api.State{Epoch: 1})
		holds(t, "empty checkpoint", d, "snap", entry(n, ""), "log", logOf(n+1, epoch()))
	}
	opened(t, "empty log", stored("log", ""), api.State{Epoch: 1})
}

// S1: a checkpoint whose text is no state, whatever records follow it; nothing is done to the disk.
func TestOpenNoState(t *testing.T) {
	twice := number(1) + number(2) + textOf(reach(submit("a")))[2:]
	wrong := []string{"x", "\x00", "\x00\x00", "\x00\x00\x00\x00", recordOf(epoch()), recordOf(add("n")), number(-1) + "\x00\x00", number(top+1) + "\x00\x00", twice, " "}
	for _, state := range someStates() {
		s := textOf(state)
		wrong = append(wrong, s+"\x00", s[:len(s)-1], "\x01"+s)
	}
	for _, text := range wrong {
		for _, log := range []string{"", logOf(1, epoch()), logOf(6, epoch()), logOf(6, epoch(), add("n")), entry(6, "")} {
			untouched(t, strconv.Quote(text), stored("snap", entry(5, text), "log", log), api.ErrWalForm)
		}
		untouched(t, strconv.Quote(text), stored("snap", entry(0, text)), api.ErrWalForm)
		untouched(t, strconv.Quote(text), stored("snap", entry(top, text)), api.ErrWalForm)
	}
}

// S1: an Epoch that can't count on is an error of Do if OpEpoch is Open's own, and of the log if it is a record.
func TestOpenLastEpoch(t *testing.T) {
	for _, state := range []api.State{{Epoch: top}, at(top, reach(submit("a"), add("n")))} {
		untouched(t, "last Epoch", stored("snap", entry(5, textOf(state))), api.ErrIntentForm)
		untouched(t, "last Epoch", stored("snap", entry(0, textOf(state)), "log", logOf(1, submit("z"), add("z"))), api.ErrIntentForm)
		untouched(t, "last Epoch and number", stored("snap", entry(top, textOf(state))), api.ErrIntentForm)
		untouched(t, "record behind the last Epoch", stored("snap", entry(5, textOf(state)), "log", logOf(6, epoch())), api.ErrWalForm)
		d := stored("snap", entry(5, textOf(at(top-1, state))))
		s := opened(t, "last Epoch but one", d, state)
		want(t, "OpEpoch", s.Do(epoch()), api.ErrIntentForm)
		want(t, "Do", s.Do(submit("y")), api.OK)
		is(t, "last Epoch", s, follow(state, submit("y")), api.OK)
		untouched(t, "last Epoch", d, api.ErrIntentForm)
	}
}

// S1: the records are applied in their order, to the state of the checkpoint if there is one; what the checkpoint replaces is not applied again.
func TestOpenRecords(t *testing.T) {
	before := []api.Op{epoch(), submit("a"), add("n")}
	ops := []api.Op{scale("a", 7), named(3, "a"), submit("a"), named(5, "n"), add("m"), named(6, "m"), epoch(), named(7, "m"), scale("a", 0), named(6, "m"), add("n")}
	snap := entry(3, textOf(reach(before...)))
	for i := range ops {
		all := append(slices.Clone(before), ops[:i]...)
		state := reach(all...)
		next := follow(state, epoch())
		opened(t, "records", stored("log", logOf(1, all...)), next)
		opened(t, "records and half a frame", stored("log", logOf(1, all...)+"\x06x"), next)
		opened(t, "checkpoint and records", stored("snap", snap, "log", logOf(4, ops[:i]...)), next)
		opened(t, "checkpoint and all records", stored("snap", snap, "log", logOf(1, all...)), next)
		opened(t, "checkpoint and some more records", stored("snap", snap, "log", logOf(3, all[2:]...)), next)
		opened(t, "empty checkpoint and records", stored("snap", entry(0, ""), "log", logOf(1, all...)), next)
		opened(t, "checkpoint of the empty state", stored("snap", entry(9, "\x00\x00\x00"), "log", logOf(10, all...)), next)
		opened(t, "checkpoint alone", stored("snap", entry(3+i, textOf(state))), next)
		opened(t, "checkpoint and what it replaces", stored("snap", entry(3+i, textOf(state)), "log", logOf(1, all...)), next)
	}
	opened(t, "records of no meaning ahead of the checkpoint", stored("snap", snap, "log", entries(1, "x", "", "y")+logOf(4, add("z"))), follow(reach(before...), add("z"), epoch()))
}

// S1: a record that is no operation, or one that the state ahead of it does not allow, wherever it is; nothing is done to the disk.
func TestOpenNoOperation(t *testing.T) {
	var full []api.Op
	for _, id := range []string{"a", "b", "c", "d", "e", "f", "g", "h"} {
		full = append(full, submit(id), add(id))
	}
	few := []api.Op{epoch(), submit("a"), add("n")}
	wrong := []struct {
		before []api.Op
		record string
	}{
		{few, ""}, {few, "x"}, {few, recordOf(epoch()) + "\x00"}, {few, recordOf(add("m"))[1:]}, {few, number(0)}, {few, number(9)}, {few, textOf(reach(few...))},
		{few, recordOf(submit("a"))}, {few, recordOf(add("n"))}, {few, recordOf(scale("b", 1))}, {few, recordOf(named(3, "n"))}, {few, recordOf(named(5, "a"))},
		{few, recordOf(named(6, "m"))}, {few, recordOf(named(7, "m"))}, {full, recordOf(submit("i"))}, {full, recordOf(add("i"))}, {nil, recordOf(named(3, "a"))},
	}
	for _, x := range wrong {
		k := len(x.before)
		opened(t, "what is ahead", stored("log", logOf(1, x.before...)), follow(reach(x.before...), epoch()))
		for _, behind := range []string{"", logOf(k+2, epoch()), logOf(k+2, submit("z")), entry(k+2, "")} {
			log := logOf(1, x.before...) + entry(k+1, x.record) + behind
			untouched(t, strconv.Quote(x.record), stored("log", log), api.ErrWalForm)
			untouched(t, strconv.Quote(x.record), stored("snap", entry(0, ""), "log", log), api.ErrWalForm)
			untouched(t, strconv.Quote(x.record), stored("snap", entry(k, textOf(reach(x.before...))), "log", entry(k+1, x.record)+behind), api.ErrWalForm)
		}
	}
}

// S1: OpEpoch is a record behind all others, and one that lasts.
func TestOpenEpoch(t *testing.T) {
	d := disk.New()
	for i := range 40 {
		before, acts := contents(d), d.Acts()
		opened(t, "the same disk", d, api.State{Epoch: i + 1})
		if i%8 == 7 {
			holds(t, "checkpoint", d, "snap", entry(i+1, textOf(api.State{Epoch: i + 1})))
		} else if got := contents(d); got["log"] != before["log"]+logOf(i+1, epoch()) || got["snap"] != before["snap"] || d.Acts() != acts+2 {
			t.Errorf("%q behind %q, %d actions", got, before, d.Acts()-acts)
		}
		lasting := contents(d)
		if d.Restart(nil); !reflect.DeepEqual(contents(d), lasting) {
			t.Errorf("%q is left of %q", contents(d), lasting)
		}
	}
}

// S1: Open returns the error of its OpEpoch: of the disk, or that there are no numbers left.
func TestOpenEpochFails(t *testing.T) {
	state := reach(epoch(), submit("a"))
	log := logOf(1, epoch(), submit("a"))
	for n := 1; n <= 2; n++ {
		for _, keep := range []int{0, 1, 5, 99} {
			d := stored("log", log)
			d.Arm(n)
			refused(t, "power off", d, api.ErrDiskPower)
			if d.Acts() != 2+n {
				t.Error(n, d.Acts())
			}
			d.Restart([]int{keep})
			s, e := store.Open(d)
			if e != api.OK || !same(at(0, s.State()), at(0, state)) || s.State().Epoch < 2 || s.State().Epoch > 3 {
				t.Error(n, keep, e)
			}
		}
	}
	noRoom := func(files ...string) {
		t.Helper()
		d := stored(files...)
		refused(t, "full disk", d, api.ErrDiskFull)
		holds(t, "full disk", d, files...)
	}
	noRoom("u", "", "x", "", "y", "", "z", "")
	snap := entry(2, textOf(state))
	noRoom("snap", snap, "x", "", "y", "", "z", "")
}

// S1: the log may be too long for OpEpoch, also with records that the checkpoint replaces.
func TestOpenLongLog(t *testing.T) {
	state := reach(epoch(), submit("a"))
	long := strings.Repeat("x", 3000)
	for room := range 10 {
		log, n := "", 1
		for len(log) < 62000 {
			log += entry(n, long)
			n++
		}
		log += entry(n, long[:65536-room-len(log)-len(entry(n, long))+3000])
		files := []string{"snap", entry(n, textOf(state)), "log", log}
		d := stored(files...)
		if room >= len(logOf(n+1, epoch())) {
			opened(t, "log with room", d, at(2, state))
			continue
		}
		refused(t, "log without room", d, api.ErrDiskFull)
		holds(t, "log without room", d, files...)
	}
}

// S1: if the checkpoint behind OpEpoch fails, there is a store all the same, whose Error tells it.
func TestOpenCheckpointFails(t *testing.T) {
	ops := []api.Op{epoch(), submit("a"), add("n"), submit("b"), scale("b", 1), add("m"), named(6, "m")}
	state := follow(reach(ops...), epoch())
	for n := 3; n <= 6; n++ {
		d := stored("log", logOf(1, ops...))
		d.Arm(n)
		s, e := store.Open(d)
		if s == nil || e != api.OK || d.Acts() != 2+n {
			t.Fatal(n, e, d.Acts())
		}
		is(t, "power off", s, state, api.ErrDiskPower)
		broken(t, d, s, api.ErrDiskPower)
		d.Restart(nil)
		broken(t, d, s, api.ErrDiskPower)
		opened(t, "the same disk", d, at(3, state))
	}
	d := stored("log", logOf(1, ops...), "x", "", "y", "", "z", "")
	s, e := store.Open(d)
	if s == nil || e != api.OK {
		t.Fatal(e)
	}
	is(t, "full disk", s, state, api.ErrDiskFull)
	broken(t, d, s, api.ErrDiskFull)
	d.Remove("x")
	broken(t, d, s, api.ErrDiskFull)
	opened(t, "disk with room", d, at(3, state))
	holds(t, "disk with room", d, "snap", entry(9, textOf(at(3, state))), "y", "", "z", "")
}

// broken tells if a store answers anything but its Error to operations, or does anything.
func broken(t *testing.T, d *disk.Disk, s *store.Store, errno api.Errno) {
	t.Helper()
	before, acts, state := contents(d), d.Acts(), s.State()
	for range 2 {
		for _, o := range []api.Op{submit("new"), submit("a"), add("new"), scale("a", 2), named(3, "a"), named(3, "none"), named(9, "a"), epoch(), {}, {Kind: -1}, {Kind: 1}} {
			want(t, "Do of a broken store", s.Do(o), errno)
		}
		is(t, "broken store", s, state, errno)
	}
	if d.Acts() != acts || !reflect.DeepEqual(contents(d), before) {
		t.Errorf("broken store: %d actions; %q, not %q", d.Acts()-acts, contents(d), before)
	}
}

// S2: the record of an operation, and what the state is then.
func TestDo(t *testing.T) {
	d := disk.New()
	s := opened(t, "empty disk", d, api.State{Epoch: 1})
	ops := []api.Op{epoch()}
	for i, o := range []api.Op{
		submit("b"), submit("a"), add("n"), scale("a", 16), named(6, "n"), epoch(), named(7, "n"), named(5, "n"), named(3, "a"),
		{Kind: 8, ID: "?", Want: 99, Work: work("w"), Node: node("n")}, {Kind: 2, ID: "b", Want: 0, Node: api.Node{ID: "?"}}, {Kind: 3, ID: "b", Want: -1},
		{Kind: 1, Work: work("b"), ID: "?", Want: -5}, {Kind: 4, Node: node("b"), ID: "?"},
	} {
		acts := d.Acts()
		want(t, "Do", s.Do(o), api.OK)
		ops = append(ops, o)
		is(t, "Do", s, reach(ops...), api.OK)
		var files []string
		done := 2
		if first := len(ops) / 8 * 8; first > 0 {
			files = append(files, "snap", entry(first, textOf(reach(ops[:first]...))))
		}
		if first := len(ops) / 8 * 8; first < len(ops) {
			files = append(files, "log", logOf(first+1, ops[first:]...))
		} else {
			done = 6
		}
		holds(t, "operation "+strconv.Itoa(i), d, files...)
		if d.Acts() != acts+done {
			t.Error(i, d.Acts()-acts)
		}
		lasting := contents(d)
		if d.Restart(nil); !reflect.DeepEqual(contents(d), lasting) {
			t.Errorf("%q is left of %q", contents(d), lasting)
		}
	}
}

// refusals are operations with the errors that they have in the state of a full store.
func refusals() map[api.Errno][]api.Op {
	return map[api.Errno][]api.Op{
		api.ErrIntentForm: {
			{}, {Kind: 9}, {Kind: -1}, {Kind: math.MinInt}, {Kind: math.MaxInt}, {Kind: 1}, {Kind: 4}, scale("a", 17), scale("a", -1), scale("A", 1), named(3, ""),
			named(5, "no name"), named(6, strings.Repeat("a", 13)), named(7, "?"), {Kind: 1, Work: api.Work{ID: "z", PerNode: 1}}, {Kind: 4, Node: api.Node{ID: "z", Cell: 3}},
		},
		api.ErrIntentTwice: {submit("a"), submit("h"), add("a"), add("h")},
		api.ErrIntentNone:  {scale("z", 1), named(3, "z"), named(5, "z"), named(6, "z"), named(7, "z")},
		api.ErrIntentFull:  {submit("z"), submit("0"), add("z"), add("cc")},
	}
}

// full opens a store of 8 workloads and 8 nodes on a new disk.
func full(t *testing.T) (*disk.Disk, *store.Store, api.State) {
	t.Helper()
	var ops []api.Op
	for _, id := range []string{"a", "b", "c", "d", "e", "f", "g", "h"} {
		ops = append(ops, submit(id), add(id))
	}
	d := disk.New()
	s := opened(t, "empty disk", d, api.State{Epoch: 1})
	for _, o := range ops {
		want(t, "Do", s.Do(o), api.OK)
	}
	state := follow(api.State{Epoch: 1}, ops...)
	is(t, "full store", s, state, api.OK)
	return d, s, state
}

// S2: an operation that is not possible returns chapter 12's error, before any of the disk's, and changes nothing; the store goes on.
func TestDoRefused(t *testing.T) {
	d, s, state := full(t)
	check := func(what string) {
		t.Helper()
		before, acts := contents(d), d.Acts()
		for errno, ops := range refusals() {
			for _, o := range ops {
				want(t, what, s.Do(o), errno)
				is(t, what, s, state, api.OK)
			}
		}
		if d.Acts() != acts || !reflect.DeepEqual(contents(d), before) {
			t.Errorf("%s: %d actions; %q, not %q", what, d.Acts()-acts, contents(d), before)
		}
	}
	check("refused")
	d.Arm(1)
	check("armed")
	d.Sync("log") // the power goes off, but not in a call of the store
	check("without power")
	d.Restart(nil)
	check("with power again")
	want(t, "Do", s.Do(named(3, "a")), api.OK)
	d.Arm(1)
	want(t, "Do", s.Do(named(3, "b")), api.ErrDiskPower)
	broken(t, d, s, api.ErrDiskPower)
}

// S2: refused operations are no records, so that they do not count towards the checkpoint.
func TestRefusedDoNotCount(t *testing.T) {
	d := disk.New()
	s := opened(t, "empty disk", d, api.State{Epoch: 1})
	for i := range 20 {
		for range 9 {
			want(t, "Do", s.Do(named(3, "none")), api.ErrIntentNone)
			want(t, "Do", s.Do(api.Op{}), api.ErrIntentForm)
		}
		want(t, "OpEpoch", s.Do(epoch()), api.OK)
		if hasLog := slices.Contains(d.List(), "log"); hasLog != (i%8 != 6) {
			t.Error(i, d.List())
		}
	}
}

// S2: an error of the disk in Append: nothing has changed, and it is the store's Error.
func TestDoFails(t *testing.T) {
	ops := []api.Op{submit("a"), add("n")}
	state := follow(api.State{Epoch: 1}, ops...)
	for n := 1; n <= 2; n++ {
		for _, next := range []api.Op{submit("b"), epoch(), named(6, "n"), scale("a", 3)} {
			d := disk.New()
			s := opened(t, "empty disk", d, api.State{Epoch: 1})
			for _, o := range ops {
				want(t, "Do", s.Do(o), api.OK)
			}
			d.Arm(n)
			want(t, "Do", s.Do(next), api.ErrDiskPower)
			is(t, "power off", s, state, api.ErrDiskPower)
			if d.Acts() != 6+n {
				t.Error(n, d.Acts())
			}
			broken(t, d, s, api.ErrDiskPower)
			d.Restart(nil)
			broken(t, d, s, api.ErrDiskPower)
			opened(t, "the same disk", d, at(2, state))
		}
	}
	d := disk.New()
	s := opened(t, "empty disk", d, api.State{Epoch: 1})
	for range 7 {
		want(t, "OpEpoch", s.Do(epoch()), api.OK)
	}
	for _, name := range []string{"x", "y", "z"} {
		d.Append(name, "")
	}
	holds(t, "no room for a log", d, "snap", entry(8, textOf(api.State{Epoch: 8})), "x", "", "y", "", "z", "")
	want(t, "Do", s.Do(submit("a")), api.ErrDiskFull)
	is(t, "full disk", s, api.State{Epoch: 8}, api.ErrDiskFull)
	broken(t, d, s, api.ErrDiskFull)
	d.Remove("x")
	broken(t, d, s, api.ErrDiskFull)
	s = opened(t, "disk with room", d, api.State{Epoch: 9})
	want(t, "Do", s.Do(submit("a")), api.OK)
}

// S2: without numbers for further records, Do returns ErrWalLong, but that is not the store's Error; refused operations are told first.
func TestDoLong(t *testing.T) {
	state := reach(submit("a"), add("n"))
	for left := 1; left <= 4; left++ {
		snap := entry(top-left, textOf(state))
		d := stored("snap", snap)
		s := opened(t, "few numbers", d, at(1, state))
		for i := 1; i < left; i++ {
			want(t, "Do", s.Do(scale("a", i)), api.OK)
		}
		last, before, acts := s.State(), contents(d), d.Acts()
		for range 10 {
			want(t, "Do", s.Do(submit("b")), api.ErrWalLong)
			want(t, "Do", s.Do(scale("a", 9)), api.ErrWalLong)
			want(t, "OpEpoch", s.Do(epoch()), api.ErrWalLong)
			want(t, "Do", s.Do(submit("a")), api.ErrIntentTwice)
			want(t, "Do", s.Do(api.Op{}), api.ErrIntentForm)
			is(t, "no numbers", s, last, api.OK)
		}
		d.Arm(1)
		want(t, "Do", s.Do(submit("b")), api.ErrWalLong)
		d.Sync("log")
		want(t, "Do", s.Do(submit("b")), api.ErrWalLong)
		is(t, "no numbers and no power", s, last, api.OK)
		if d.Restart(nil); d.Acts() != acts+1 || !reflect.DeepEqual(contents(d), before) {
			t.Errorf("%d actions; %q, not %q", d.Acts()-acts, contents(d), before)
		}
		untouched(t, "no numbers", d, api.ErrWalLong)
	}
	untouched(t, "no numbers", stored("snap", entry(top, textOf(state))), api.ErrWalLong)
	untouched(t, "no numbers", stored("snap", entry(top, "")), api.ErrWalLong)
}

// S2: the checkpoint behind the last number; nothing follows it, and 8 or more records are no reason for another one then.
func TestLastCheckpoint(t *testing.T) {
	d := stored("snap", entry(top-8, ""))
	s := opened(t, "eight numbers", d, api.State{Epoch: 1})
	for range 7 {
		want(t, "OpEpoch", s.Do(epoch()), api.OK)
	}
	snap := entry(top, textOf(api.State{Epoch: 8}))
	holds(t, "no numbers", d, "snap", snap)
	want(t, "OpEpoch", s.Do(epoch()), api.ErrWalLong)
	is(t, "no numbers", s, api.State{Epoch: 8}, api.OK)
	untouched(t, "no numbers", d, api.ErrWalLong)
	ops := make([]api.Op, 9)
	for i := range ops {
		ops[i] = epoch()
	}
	untouched(t, "no numbers and no checkpoint", stored("snap", entry(top-9, ""), "log", logOf(top-8, ops...)), api.ErrWalLong)
}

// S2: a checkpoint is written behind 8 records since the last one, however many there were before Open, and how many Opens.
func TestWhenCheckpoints(t *testing.T) {
	for snap := range 3 {
		for before := range 20 {
			var ops []api.Op
			for range before {
				ops = append(ops, epoch())
			}
			d := stored("snap", entry(snap, "\x00\x00\x00"), "log", logOf(snap+1, ops...))
			s := opened(t, "records", d, api.State{Epoch: before + 1})
			since := before + 1
			for i := 1; i < 30; i++ {
				hasLog := slices.Contains(d.List(), "log")
				if since >= 8 {
					since = 0
				}
				text, _ := d.Read("snap")
				if hasLog != (since > 0) || text != entry(snap+before+i-since, textOf(api.State{Epoch: before + i - since})) {
					t.Fatalf("%d %d %d: %q", snap, before, i, contents(d))
				}
				since++
				if i%5 == 0 {
					s = opened(t, "again", d, api.State{Epoch: before + i + 1})
				} else {
					want(t, "OpEpoch", s.Do(epoch()), api.OK)
				}
			}
		}
	}
}

// S2: records that the checkpoint replaces do not count, though they are still in the log.
func TestReplacedRecordsDoNotCount(t *testing.T) {
	var ops []api.Op
	for range 8 {
		ops = append(ops, epoch())
	}
	snap := entry(8, textOf(api.State{Epoch: 8}))
	d := stored("snap", snap, "log", logOf(1, ops...))
	s := opened(t, "log that was not removed", d, api.State{Epoch: 9})
	for i := 2; i < 8; i++ {
		want(t, "OpEpoch", s.Do(epoch()), api.OK)
	}
	text, _ := d.Read("snap")
	if text != snap {
		t.Errorf("%q", contents(d))
	}
	want(t, "OpEpoch", s.Do(epoch()), api.OK)
	holds(t, "8 records", d, "snap", entry(16, textOf(api.State{Epoch: 16})))
}

// S2: an error of the checkpoint is the store's Error, but not that of Do, whose operation has been performed.
func TestCheckpointFails(t *testing.T) {
	ops := []api.Op{submit("a"), add("n"), submit("b"), add("m"), named(6, "n"), scale("a", 4)}
	for n := 3; n <= 6; n++ {
		for _, next := range []api.Op{submit("c"), epoch(), named(3, "a")} {
			d := disk.New()
			s := opened(t, "empty disk", d, api.State{Epoch: 1})
			for _, o := range ops {
				want(t, "Do", s.Do(o), api.OK)
			}
			d.Arm(n)
			state := follow(s.State(), next)
			want(t, "Do", s.Do(next), api.OK)
			is(t, "power off", s, state, api.ErrDiskPower)
			if d.Acts() != 14+n {
				t.Error(n, d.Acts())
			}
			broken(t, d, s, api.ErrDiskPower)
			d.Restart(nil)
			broken(t, d, s, api.ErrDiskPower)
			opened(t, "the same disk", d, at(state.Epoch+1, state))
		}
	}
	d := stored("x", "", "y", "", "z", "")
	s := opened(t, "disk without room for new", d, api.State{Epoch: 1})
	for _, o := range ops {
		want(t, "Do", s.Do(o), api.OK)
	}
	state := follow(s.State(), submit("c"))
	want(t, "Do", s.Do(submit("c")), api.OK)
	is(t, "full disk", s, state, api.ErrDiskFull)
	broken(t, d, s, api.ErrDiskFull)
	for i := range 3 {
		s, e := store.Open(d)
		if s == nil || e != api.OK {
			t.Fatal(e)
		}
		is(t, "full disk again", s, at(2+i, state), api.ErrDiskFull)
		broken(t, d, s, api.ErrDiskFull)
	}
	d.Remove("y")
	opened(t, "disk with room", d, at(5, state))
	holds(t, "disk with room", d, "snap", entry(12, textOf(at(5, state))), "x", "", "z", "")
}

// S2: the largest state has a checkpoint, too.
func TestLargest(t *testing.T) {
	states := someStates()
	largest := states[len(states)-1]
	d := disk.New()
	s := opened(t, "empty disk", d, api.State{Epoch: 1})
	for i := range 8 {
		want(t, "OpSubmit", s.Do(api.Op{Kind: 1, Work: largest.Works[i]}), api.OK)
		want(t, "OpAddNode", s.Do(api.Op{Kind: 4, Node: largest.Nodes[i]}), api.OK)
	}
	is(t, "largest", s, at(1, largest), api.OK)
	for i := range 20 {
		want(t, "OpScale", s.Do(scale(largest.Works[0].ID, i%17)), api.OK)
	}
	largest.Works[0].Want = 19 % 17
	is(t, "largest", s, at(1, largest), api.OK)
	opened(t, "largest", d, at(2, largest))
}

// S3: State and Error change nothing, and return the same again.
func TestStateAndError(t *testing.T) {
	d := disk.New()
	s := opened(t, "empty disk", d, api.State{Epoch: 1})
	check := func(state api.State, errno api.Errno) {
		t.Helper()
		before, acts := contents(d), d.Acts()
		for range 3 {
			is(t, "State and Error", s, state, errno)
		}
		if d.Acts() != acts || !reflect.DeepEqual(contents(d), before) {
			t.Errorf("%d actions; %q, not %q", d.Acts()-acts, contents(d), before)
		}
	}
	check(api.State{Epoch: 1}, api.OK)
	want(t, "Do", s.Do(submit("a")), api.OK)
	check(reach(epoch(), submit("a")), api.OK)
	d.Arm(3)
	want(t, "Do", s.Do(add("n")), api.OK)
	check(reach(epoch(), submit("a"), add("n")), api.OK)
	want(t, "Do", s.Do(named(6, "n")), api.ErrDiskPower)
	check(reach(epoch(), submit("a"), add("n")), api.ErrDiskPower)
	d.Restart(nil)
	check(reach(epoch(), submit("a"), add("n")), api.ErrDiskPower)
}

// S1, S2, S3: all short sequences of calls, with and without power failures and what somebody else does to the disk.
func TestSmall(t *testing.T) {
	some := []call{
		open(), do(submit("a")), do(add("n")), do(named(3, "a")), do(epoch()), do(api.Op{}), arm(1), arm(2), arm(4), restart(), restart(3, 5, 7),
		put("log", "\x06x"), put("log", logOf(2, add("o"))), put("snap", entry(1, textOf(reach(submit("s"))))), put("new", "n"), remove("log"),
	}
	var try func(calls []call, left int)
	try = func(calls []call, left int) {
		if t.Failed() {
			return
		}
		checkAll(t, calls)
		for _, c := range some {
			if left > 0 {
				try(append(slices.Clone(calls), c), left-1)
			}
		}
	}
	try(nil, 3)
	try([]call{open(), do(submit("a"))}, 3)
	try([]call{put("x", ""), put("y", ""), open(), do(epoch()), do(add("m")), do(epoch()), do(epoch()), do(epoch())}, 3)
	try([]call{put("log", logOf(1, epoch(), submit("a"), epoch(), epoch(), epoch(), epoch(), epoch(), epoch())+"\x04"), put("new", "n")}, 3)
}

// S1, S2, S3: long random sequences.
func TestRandom(t *testing.T) {
	random := rand.New(rand.NewSource(1))
	for range 3000 {
		calls := []call{open()}
		for range 40 {
			calls = append(calls, randomCall(random))
		}
		checkAll(t, calls)
	}
}

func randomCall(random *rand.Rand) call {
	name := []string{"log", "snap", "new", "else", "more", "most"}[random.Intn(6)]
	switch random.Intn(28) {
	case 0, 1, 2:
		return open()
	case 3, 4:
		return arm(random.Intn(14))
	case 5, 6:
		return restart(random.Intn(50), random.Intn(50), random.Intn(50), random.Intn(50))
	case 7:
		return randomPut(random, name)
	case 8:
		return sync(name)
	case 9:
		return remove(name)
	default:
		return do(randomOp(random))
	}
}

// randomPut is often a file as a store has it.
func randomPut(random *rand.Rand, name string) call {
	switch random.Intn(4) {
	case 0:
		return put("log", logOf(1+random.Intn(3), randomOp(random)))
	case 1:
		return put("snap", entry(random.Intn(3), textOf(at(random.Intn(5), reach(submit("a"), add("b"))))))
	case 2:
		return put("snap", entry(random.Intn(3), []string{"", "x"}[random.Intn(2)]))
	}
	s := entry(random.Intn(5), "x")
	return put(name, s[:random.Intn(len(s)+1)])
}

// randomOp is of a valid form.
func randomOp(random *rand.Rand) api.Op {
	id := []string{"a", "b", "c", "d", "e", "f", "g", "h", "i", "j"}[random.Intn(10)]
	switch kind := 1 + random.Intn(8); kind {
	case 1:
		return submit(id)
	case 2:
		return scale(id, random.Intn(17))
	case 4:
		return add(id)
	case 8:
		return epoch()
	default:
		return named(kind, id)
	}
}

// S1: a log and a checkpoint with any bytes in place of some of theirs, with frames that are right around them.
func TestOpenAnyBytes(t *testing.T) {
	random := rand.New(rand.NewSource(2))
	for range 20000 {
		snap := random.Intn(4)
		text := textOf(at(random.Intn(100), reach(submit("a"), add("n"))))
		records := recordsOf(submit("b"), add("m"), named(6, "n"), scale("a", 5), epoch())[:random.Intn(6)]
		if which := random.Intn(len(records) + 1); which < len(records) {
			records[which] = spoilt(random, records[which])
		} else {
			text = spoilt(random, text)
		}
		checkAll(t, []call{put("snap", entry(snap, text)), put("log", entries(snap+1, records...)), open(), do(submit("z")), open()})
	}
}

// spoilt is a text with another byte, one more or one less.
func spoilt(random *rand.Rand, s string) string {
	i := random.Intn(len(s))
	other := string([]byte{byte(random.Intn(12))})
	switch random.Intn(4) {
	case 0:
		return s[:i] + s[i+1:]
	case 1:
		return s[:i] + other + s[i:]
	case 2:
		return s[:i] + other + s[i+1:]
	default:
		return s[:i]
	}
}

// scripts are calls for the theorem.
func scripts() [][]call {
	ops := dos(submit("a"), add("n"), scale("a", 5), submit("b"), named(6, "n"), add("m"), named(3, "a"), named(7, "n"), submit("a"), named(5, "m"), epoch(), submit("c"))
	var again, opens []call
	for _, c := range ops {
		again = append(again, c, open())
	}
	for range 18 {
		opens = append(opens, open())
	}
	return [][]call{ops, again, opens, append(append(slices.Clone(ops), open()), dos(submit("d"), submit("e"), submit("f"), named(3, "d"), named(3, "e"), named(3, "f"), named(3, "c"))...)}
}

// history is a disk, the store that is open on it, and what S4 promises of the next one.
type history struct {
	d       *disk.Disk
	s       *store.Store
	left    api.State // that all operations that returned OK left
	whole   api.State // with the one that was interrupted, too
	highest int       // the greatest Epoch of any store so far
}

// play makes calls till one returns ErrDiskPower or the store is broken; it reports whether that came.
func (h *history) play(t *testing.T, calls []call) bool {
	t.Helper()
	for _, c := range calls {
		e := api.OK
		if c.kind == doOpen {
			if e = h.open(t); e == api.OK {
				h.checkOpen(t)
			}
		} else {
			h.whole = follow(h.left, c.op)
			if e = h.s.Do(c.op); e == api.OK {
				h.left = h.whole
			}
		}
		if e != api.OK {
			want(t, "interrupted", e, api.ErrDiskPower)
			return true
		}
		h.highest = max(h.highest, h.s.State().Epoch)
		if h.s.Error() != api.OK {
			return true
		}
	}
	return false
}

// open opens the next store.
func (h *history) open(t *testing.T) api.Errno {
	t.Helper()
	var e api.Errno
	if h.s, e = store.Open(h.d); (h.s != nil) != (e == api.OK) {
		t.Fatal(e)
	}
	return e
}

// checkOpen checks the store that was just opened, and takes over which of both states it has.
func (h *history) checkOpen(t *testing.T) {
	t.Helper()
	got := h.s.State()
	isLeft, isWhole := same(at(0, got), at(0, h.left)), same(at(0, got), at(0, h.whole))
	if !isLeft && !isWhole || got.Epoch <= h.highest {
		t.Fatalf("%v in Epoch %d, not %v nor %v behind Epoch %d", got, got.Epoch, h.left, h.whole, h.highest)
	}
	h.left, h.whole, h.highest = got, got, got.Epoch
}

// goOn opens a disk behind a power failure, again and again, and goes on with it.
func (h *history) goOn(t *testing.T) {
	t.Helper()
	for range 2 {
		want(t, "Open behind a power failure", h.open(t), api.OK)
		h.checkOpen(t)
	}
	if h.play(t, dos(add("z"), named(6, "z"), epoch(), named(7, "z"), named(5, "z"), submit("z"), scale("z", 9), named(3, "z"), add("z"))) {
		t.Fatal("interrupted without a power failure")
	}
	h.d.Restart(nil)
	want(t, "Open", h.open(t), api.OK)
	h.checkOpen(t)
}

// interrupted is the history of some calls with the power going off at an action, if there are so many.
func interrupted(t *testing.T, calls []call, action int) (*history, bool) {
	t.Helper()
	h := &history{d: disk.New()}
	h.d.Arm(action)
	return h, h.play(t, append([]call{open()}, calls...))
}

// longest is more than the bytes that are not synced at any moment of the scripts.
const longest = 100

// S4: the power goes off at each action, and every part of what was not synced is kept.
func TestTheorem(t *testing.T) {
	for _, calls := range scripts() {
		for action := 1; ; action++ {
			if _, ok := interrupted(t, calls, action); !ok {
				break
			}
			for keep := range longest {
				h, _ := interrupted(t, calls, action)
				h.d.Restart([]int{keep, keep, keep})
				h.goOn(t)
			}
		}
	}
}

// S4: the power goes off in the next Open as well, at each of its actions, once or twice.
func TestTheoremInOpen(t *testing.T) {
	for _, calls := range scripts() {
		for action := 1; ; action++ {
			if _, ok := interrupted(t, calls, action); !ok {
				break
			}
			for second := 1; second <= 8; second++ {
				for _, third := range []int{0, 1, 2, 4, 6} {
					for _, keep := range []int{0, 3, 40, -1} {
						h, _ := interrupted(t, calls, action)
						h.d.Restart([]int{keep, keep, keep})
						h.interruptOpen(t, second)
						h.d.Restart([]int{2, keep, 9})
						h.interruptOpen(t, third)
						h.d.Restart([]int{keep / 2, 7, keep / 3})
						h.goOn(t)
					}
				}
			}
		}
	}
}

// interruptOpen lets the power go off at an action of Open, and keeps what S4 says then.
func (h *history) interruptOpen(t *testing.T, action int) {
	t.Helper()
	h.d.Arm(action)
	if e := h.open(t); e != api.OK {
		want(t, "interrupted Open", e, api.ErrDiskPower)
		return
	}
	h.checkOpen(t)
}

// S4: long histories with a power failure every few actions.
func TestTheoremLong(t *testing.T) {
	random := rand.New(rand.NewSource(3))
	for range 150 {
		h := &history{d: disk.New()}
		for range 60 {
			h.d.Arm(random.Intn(30))
			isBroken := h.play(t, []call{open()})
			for !isBroken && random.Intn(30) > 0 {
				o := randomOp(random)
				if _, e := intent.Apply(h.left, o); e != api.OK {
					want(t, "refused", h.s.Do(o), e)
					continue
				}
				isBroken = h.play(t, []call{do(o)})
			}
			h.d.Restart([]int{random.Intn(99), random.Intn(99), random.Intn(99)})
		}
		want(t, "Open", h.open(t), api.OK)
		h.checkOpen(t)
	}
}

// R4: stores on different disks are independent of each other.
func TestStoresApart(t *testing.T) {
	var disks []*disk.Disk
	var stores []*store.Store
	for range 3 {
		d := disk.New()
		disks, stores = append(disks, d), append(stores, opened(t, "empty disk", d, api.State{Epoch: 1}))
	}
	disks[2].Arm(6)
	for _, id := range []string{"a", "b", "c", "d", "e", "f", "g", "h"} {
		want(t, "Do", stores[0].Do(submit(id)), api.OK)
		want(t, "Do", stores[1].Do(add(id)), api.OK)
		wanted := api.OK
		if id > "b" {
			wanted = api.ErrDiskPower
		}
		want(t, "Do", stores[2].Do(submit(id)), wanted)
	}
	works, nodes := stores[0].State(), stores[1].State()
	if len(works.Works) != 8 || len(works.Nodes) != 0 || len(nodes.Works) != 0 || len(nodes.Nodes) != 8 {
		t.Error(works, nodes)
	}
	want(t, "Error", stores[0].Error(), api.OK)
	is(t, "broken store", stores[2], reach(epoch(), submit("a"), submit("b")), api.ErrDiskPower)
	opened(t, "first disk", disks[0], at(2, works))
	opened(t, "second disk", disks[1], at(2, nodes))
}

// R4: the same calls have the same answers.
func TestTheSameAgain(t *testing.T) {
	play := func() (*disk.Disk, []answer) {
		random := rand.New(rand.NewSource(4))
		r := &real{d: disk.New()}
		var all []answer
		for range 400 {
			all = append(all, r.perform(randomCall(random)))
		}
		return r.d, all
	}
	d, all := play()
	e, again := play()
	if !alike(d, e) || !slices.EqualFunc(all, again, answer.equals) {
		t.Error("other answers")
	}
}

// R1: operations with very long texts.
func TestHugeOperations(t *testing.T) {
	d := disk.New()
	s := opened(t, "empty disk", d, api.State{Epoch: 1})
	long := strings.Repeat("a", 1<<26)
	for _, o := range []api.Op{
		submit(long), add(long), scale(long, 1), named(3, long), named(5, long), named(6, long), {Kind: 1, Work: api.Work{ID: "a", PerNode: 1, PerCell: 1, Selector: long}},
		{Kind: 4, Node: api.Node{ID: "n", Labels: long}}, {Kind: 4, Node: api.Node{ID: "n", Labels: strings.Repeat("a=b,", 1<<24)}},
	} {
		want(t, "Do", s.Do(o), api.ErrIntentForm)
	}
	is(t, "huge operations", s, api.State{Epoch: 1}, api.OK)
	want(t, "Do", s.Do(api.Op{Kind: 8, ID: long, Work: work(long), Node: node(long)}), api.OK)
	holds(t, "huge operations", d, "log", logOf(1, epoch(), epoch()))
}

// lent is a text whose memory the caller changes later on.
func lent(s string) (string, []byte) {
	memory := []byte(s)
	return unsafe.String(unsafe.SliceData(memory), len(memory)), memory
}

// R3: no text of an operation is kept.
func TestArgumentsNotKept(t *testing.T) {
	d := disk.New()
	s := opened(t, "empty disk", d, api.State{Epoch: 1})
	for _, o := range []api.Op{submit("a"), add("n"), scale("a", 9), named(6, "n"), submit("b"), named(3, "b"), epoch()} {
		var all [][]byte
		p := o
		for _, text := range []*string{&p.ID, &p.Work.ID, &p.Work.Selector, &p.Node.ID, &p.Node.Labels} {
			own, memory := lent(*text)
			*text, all = own, append(all, memory)
		}
		want(t, "Do", s.Do(p), api.OK)
		for _, memory := range all {
			clear(memory)
		}
	}
	state := reach(epoch(), submit("a"), add("n"), scale("a", 9), named(6, "n"), epoch())
	is(t, "lent texts", s, state, api.OK)
	opened(t, "lent texts", d, at(3, state))
}

// textsIn are all texts of a state.
func textsIn(s api.State) []string {
	var all []string
	for _, w := range s.Works {
		all = append(all, w.ID, w.Selector)
	}
	for _, n := range s.Nodes {
		all = append(all, n.ID, n.Labels)
	}
	return all
}

// R3: what State returns is new memory, its spare capacity and its texts too, and changes nothing of what is returned later.
func TestAnswersNew(t *testing.T) {
	snap := entry(1, textOf(reach(submit("a"), add("n"))))
	d := stored("snap", snap, "log", logOf(2, submit("b"), add("m")))
	state := reach(submit("a"), add("n"), submit("b"), add("m"), epoch())
	s := opened(t, "disk", d, state)
	for _, o := range []api.Op{epoch(), submit("e"), submit("c"), add("k"), scale("a", 9), named(6, "n"), named(3, "b"), named(5, "k"), epoch()} {
		kept, x, y := s.State(), s.State(), s.State()
		for i, text := range textsIn(x) {
			if unsafe.StringData(text) == unsafe.StringData(textsIn(y)[i]) {
				t.Errorf("%q: the same memory twice", text)
			}
		}
		overwrite(x)
		is(t, "State behind changes", s, state, api.OK)
		want(t, "Do", s.Do(o), api.OK)
		if !same(kept, state) || !same(y, state) {
			t.Errorf("%v, %v, not %v", kept, y, state)
		}
		state = follow(state, o)
		is(t, "State", s, state, api.OK)
	}
	opened(t, "disk", d, at(state.Epoch+1, state))
}

// overwrite fills a state's lists with other elements, to the end of their capacity.
func overwrite(s api.State) {
	works, nodes := s.Works[:cap(s.Works)], s.Nodes[:cap(s.Nodes)]
	for i := range works {
		works[i] = work("x")
	}
	for i := range nodes {
		nodes[i] = node("x")
	}
}
