package wal_test

import (
	"encoding/binary"
	"hash/adler32"
	"math"
	"math/rand"
	"reflect"
	"slices"
	"strconv"
	"strings"
	"testing"
	"unsafe"

	"billet/api"
	"billet/disk"
	"billet/frame"
	"billet/wal"
)

// num is the encoding of a number, by Go's library.
func num(n int) string {
	return string(binary.AppendVarint(nil, int64(n)))
}

// laid is the frame of a payload, however long that is, by Go's library.
func laid(payload string) string {
	text := num(len(payload)) + payload
	return text + string(binary.BigEndian.AppendUint32(nil, adler32.Checksum([]byte(text))))
}

// entry is the frame of a number and a text: one of the log, or the checkpoint.
func entry(n int, text string) string { return laid(num(n) + text) }

// entries are the frames of records whose numbers begin with first.
func entries(first int, records ...string) string {
	s := ""
	for i, record := range records {
		s += entry(first+i, record)
	}
	return s
}

// The calls of a log (one at a time on a disk), and what happens to its disk between them.
const (
	doOpen = iota
	doAppend
	doCheckpoint
	doArm
	doRestart
	doPut
	doSync
	doRemove
)

// call is one of them with its arguments.
type call struct {
	kind       int
	name, text string
	n          int
	keep       []int
}

// Short forms for tables. put, sync and remove are what somebody else does to the disk, behind which the log has to be opened again.
func open() call                 { return call{kind: doOpen} }
func add(record string) call     { return call{kind: doAppend, text: record} }
func mark(text string) call      { return call{kind: doCheckpoint, text: text} }
func arm(n int) call             { return call{kind: doArm, n: n} }
func restart(keep ...int) call   { return call{kind: doRestart, keep: keep} }
func put(name, text string) call { return call{kind: doPut, name: name, text: text} }
func sync(name string) call      { return call{kind: doSync, name: name} }
func remove(name string) call    { return call{kind: doRemove, name: name} }

// answer is what a call answers, and what Seq answers behind it (-1 without a log).
type answer struct {
	errno   api.Errno
	text    string
	records string // of Open, quoted, each with a semicolon behind it
	seq     int
}

func quoted(records []string) string {
	s := ""
	for _, record := range records {
		s += strconv.Quote(record) + ";"
	}
	return s
}

// outside is what happens to a disk between a log's calls; it reports whether c is of that kind, and whether the log is still the disk's only writer.
func outside(d *disk.Disk, c call) (done, alone bool) {
	switch c.kind {
	case doArm:
		d.Arm(c.n)
		return true, true
	case doRestart:
		d.Restart(c.keep)
		return true, true
	case doPut:
		d.Append(c.name, c.text)
		return true, false
	case doSync:
		d.Sync(c.name)
		return true, false
	case doRemove:
		d.Remove(c.name)
		return true, false
	}
	return false, true
}

// real is a disk and the log that is open on it, if one is.
type real struct {
	d *disk.Disk
	w *wal.Wal
}

// perform makes a call; without a log, Append and Checkpoint are left out.
func (r *real) perform(c call) answer {
	a := answer{seq: -1}
	if done, alone := outside(r.d, c); done {
		if !alone {
			r.w = nil
		}
	} else if c.kind == doOpen {
		var records []string
		r.w, a.text, records, a.errno = wal.Open(r.d)
		a.records = quoted(records)
	} else if r.w != nil && c.kind == doAppend {
		a.errno = r.w.Append(c.text)
	} else if r.w != nil {
		a.errno = r.w.Checkpoint(c.text)
	}
	if r.w != nil {
		a.seq = r.w.Seq()
	}
	return a
}

// model is a log by the chapter's words, on a disk of its own.
type model struct {
	d      *disk.Disk
	isOpen bool
	seq    int
	failed api.Errno // the disk's error
}

// exists reports whether a disk has a file.
func exists(d *disk.Disk, name string) bool { return slices.Contains(d.List(), name) }

// first returns the first error of some actions, behind which no further one is done.
func first(actions ...func() api.Errno) api.Errno {
	for _, act := range actions {
		if e := act(); e != api.OK {
			return e
		}
	}
	return api.OK
}

// appending, syncing, renaming and removing are actions that are not done yet; removing is of a file that exists.
func (m *model) appending(name, s string) func() api.Errno {
	return func() api.Errno { return m.d.Append(name, s) }
}

func (m *model) syncing(name string) func() api.Errno {
	return func() api.Errno { return m.d.Sync(name) }
}

func (m *model) renaming(from, to string) func() api.Errno {
	return func() api.Errno { return m.d.Rename(from, to) }
}

func (m *model) removing(name string) func() api.Errno {
	return func() api.Errno {
		if exists(m.d, name) {
			return m.d.Remove(name)
		}
		return api.OK
	}
}

// numbered is what a payload consists of, if that is a number from 0 to 2^40 and a text.
func numbered(payload string) (n int, text string, ok bool) {
	read, long := binary.Varint([]byte(payload))
	if long <= 0 || read < 0 || read > 1099511627776 || num(int(read)) != payload[:long] {
		return 0, "", false
	}
	return int(read), payload[long:], true
}

// perform is what the chapter says of a call.
func (m *model) perform(c call) answer {
	a := answer{seq: -1}
	if done, alone := outside(m.d, c); done {
		m.isOpen = m.isOpen && alone
	} else if c.kind == doOpen {
		*m = model{d: m.d}
		var records []string
		a.text, records, a.errno = m.open()
		m.isOpen = a.errno == 0
		if a.records = quoted(records); !m.isOpen {
			a = answer{errno: a.errno, seq: -1}
		}
	} else if m.isOpen {
		a.errno = m.change(c)
	}
	if m.isOpen {
		a.seq = m.seq
	}
	return a
}

// open is the steps of Open.
func (m *model) open() (text string, records []string, e api.Errno) {
	if m.d.Off() {
		return "", nil, 100
	}
	if e := m.removing("new")(); e != api.OK {
		return "", nil, e
	}
	snap, ok := 0, true
	if exists(m.d, "snap") {
		s, _ := m.d.Read("snap")
		payloads, _, e := frame.All(s)
		if e != api.OK || len(payloads) != 1 {
			return "", nil, 110
		}
		if snap, text, ok = numbered(payloads[0]); !ok {
			return "", nil, 110
		}
	}
	m.seq = snap
	s, _ := m.d.Read("log")
	payloads, long, end := frame.All(s)
	if end == api.ErrFrameBad {
		return "", nil, 110
	}
	var numbers []int
	for _, payload := range payloads {
		n, record, ok := numbered(payload)
		if !ok || len(numbers) > 0 && n != numbers[len(numbers)-1]+1 {
			return "", nil, 110
		}
		numbers = append(numbers, n)
		if n > snap {
			records = append(records, record)
			m.seq = n
		}
	}
	if len(numbers) > 0 && (numbers[0] < 1 || numbers[0] > snap+1) {
		return "", nil, 110
	}
	if end == api.ErrFrameShort {
		return text, records, first(m.appending("new", s[:long]), m.syncing("new"), m.renaming("new", "log"))
	}
	return text, records, api.OK
}

// change is Append and Checkpoint.
func (m *model) change(c call) api.Errno {
	if m.failed != api.OK {
		return m.failed
	}
	if c.kind == doAppend {
		if m.seq == 1099511627776 || len(num(m.seq+1))+len(c.text) > 4096 {
			return 111
		}
		if m.failed = first(m.appending("log", entry(m.seq+1, c.text)), m.syncing("log")); m.failed == api.OK {
			m.seq++
		}
		return m.failed
	}
	if len(num(m.seq))+len(c.text) > 4096 {
		return 111
	}
	m.failed = first(m.appending("new", entry(m.seq, c.text)), m.syncing("new"), m.renaming("new", "snap"), m.removing("log"))
	return m.failed
}

// contents are the names and bytes of all files of a disk with power.
func contents(d *disk.Disk) map[string]string {
	all := map[string]string{}
	for _, name := range d.List() {
		all[name], _ = d.Read(name)
	}
	return all
}

// alike reports whether two disks show the same.
func alike(a, b *disk.Disk) bool {
	return a.Off() == b.Off() && a.Acts() == b.Acts() && reflect.DeepEqual(contents(a), contents(b)) && slices.Equal(a.List(), b.List())
}

// checkAll makes calls on a log and on the model, each on a new disk, and compares each answer and what the disks show behind each call, and what is left behind a Restart that keeps nothing of what is not synced.
func checkAll(t *testing.T, calls []call) {
	t.Helper()
	r, m := &real{d: disk.New()}, &model{d: disk.New()}
	calls = append(slices.Clone(calls), restart(), open())
	for i, c := range calls {
		got, want := r.perform(c), m.perform(c)
		if got == want && alike(r.d, m.d) {
			continue
		}
		t.Errorf("%v: %v, not %v; %d actions, not %d; %q, not %q", brief(calls[:i+1]), short(got), short(want), r.d.Acts(), m.d.Acts(), cutAll(r.d), cutAll(m.d))
		return
	}
}

// brief, short and cutAll cut long texts, for messages.
func brief(calls []call) []call {
	var out []call
	for _, c := range calls {
		c.text = cut(c.text)
		out = append(out, c)
	}
	return out
}

func short(a answer) answer {
	a.text, a.records = cut(a.text), cut(a.records)
	return a
}

func cutAll(d *disk.Disk) map[string]string {
	all := contents(d)
	for name, s := range all {
		all[name] = cut(s)
	}
	return all
}

func cut(s string) string {
	if len(s) > 60 {
		return s[:60] + ".."
	}
	return s
}

// want tells if an error is another one than it should be.
func want(t *testing.T, what string, got, want api.Errno) {
	t.Helper()
	if got != want {
		t.Errorf("%s: %d, not %d", what, got, want)
	}
}

// stored is a disk with files (a name, bytes, a name, ..), which are synced.
func stored(files ...string) *disk.Disk {
	d := disk.New()
	for i := 0; i < len(files); i += 2 {
		d.Append(files[i], files[i+1])
		d.Sync(files[i])
	}
	return d
}

// opened opens a log, which has this text and these records.
func opened(t *testing.T, d *disk.Disk, seq int, text string, records ...string) *wal.Wal {
	t.Helper()
	w, s, l, e := wal.Open(d)
	if e != api.OK || w == nil || s != text || !slices.Equal(l, records) || w.Seq() != seq {
		t.Fatalf("Open: %d %q %q; not %q %q", e, cut(s), l, cut(text), records)
	}
	return w
}

// refused tells if Open of a disk answers anything but an error.
func refused(t *testing.T, what string, d *disk.Disk, errno api.Errno) {
	t.Helper()
	if w, text, records, e := wal.Open(d); w != nil || text != "" || len(records) != 0 || e != errno {
		t.Errorf("Open of %s: %v %q %q %d, not %d", what, w != nil, cut(text), records, e, errno)
	}
}

// holds tells if a disk has other files than it should have.
func holds(t *testing.T, what string, d *disk.Disk, files ...string) {
	t.Helper()
	if got, want := contents(d), contents(stored(files...)); !reflect.DeepEqual(got, want) {
		t.Errorf("%s: the disk has %q, not %q", what, cutAll(d), want)
	}
}

// The chapter's example; W1, W2.
func TestExample(t *testing.T) {
	d := disk.New()
	w := opened(t, d, 0, "")
	want(t, "Append", w.Append("a"), api.OK)
	want(t, "Append", w.Append("b"), api.OK)
	want(t, "Checkpoint", w.Checkpoint("ab"), api.OK)
	want(t, "Append", w.Append("c"), api.OK)
	opened(t, d, 3, "ab", "c")
	s := entry(4, "d")
	d.Append("log", s)
	d.Restart([]int{len(s) / 2})
	opened(t, d, 3, "ab", "c")
	holds(t, "example", d, "snap", entry(2, "ab"), "log", entry(3, "c"))
}

// W1, step 1: no disk, and a disk without power, whatever it has.
func TestOpenNothing(t *testing.T) {
	refused(t, "nil", nil, api.ErrArg)
	for _, d := range []*disk.Disk{disk.New(), stored("log", entry(1, "a")), stored("new", "x"), stored("log", "bad"), stored("snap", "bad")} {
		before := contents(d)
		d.Arm(1)
		d.Sync("log")
		acts := d.Acts()
		for range 3 {
			refused(t, "disk without power", d, api.ErrDiskPower)
		}
		if d.Acts() != acts || !d.Off() {
			t.Error(d.Acts(), d.Off())
		}
		if d.Restart(nil); !reflect.DeepEqual(contents(d), before) {
			t.Errorf("%q", contents(d))
		}
	}
}

// W1, step 1: an empty disk is left as it is.
func TestOpenEmpty(t *testing.T) {
	d := disk.New()
	for range 3 {
		opened(t, d, 0, "")
	}
	if d.Acts() != 0 || len(d.List()) != 0 {
		t.Error(d.Acts(), d.List())
	}
}

// W1, step 2: new is removed, whatever it has and whatever the steps behind this one find; nothing else is touched.
func TestOpenNew(t *testing.T) {
	good := entry(1, "a")
	for _, s := range []string{"", "x", good, good + good, strings.Repeat("x", 65536)} {
		d := stored("new", s)
		acts := d.Acts()
		opened(t, d, 0, "")
		holds(t, "new alone", d)
		if d.Acts() != acts+1 {
			t.Error(d.Acts() - acts)
		}
		d = stored("new", s, "snap", entry(3, "t"), "log", entry(4, "r"), "else", "y")
		opened(t, d, 4, "t", "r")
		holds(t, "new", d, "snap", entry(3, "t"), "log", entry(4, "r"), "else", "y")
		for _, wrong := range []string{"snap", "log"} {
			d = stored("new", s, wrong, "\x01")
			refused(t, wrong, d, api.ErrWalForm)
			holds(t, wrong, d, wrong, "\x01")
		}
		d = stored("new", s, "snap", "\x01", "log", good)
		d.Arm(1)
		refused(t, "power off", d, api.ErrDiskPower)
		d.Restart(nil)
		holds(t, "power off", d, "new", s, "snap", "\x01", "log", good)
	}
}

// W1, step 2: on a disk with all files that it may have, this makes room for the new of step 5.
func TestOpenNewFirst(t *testing.T) {
	d := stored("new", "x", "a", "", "b", "", "log", entry(1, "a")+"\x02")
	opened(t, d, 1, "", "a")
	holds(t, "four files", d, "a", "", "b", "", "log", entry(1, "a"))
}

// marks are numbers of checkpoints.
var marks = []int{0, 1, 2, 63, 64, 8191, 8192, 1<<31 - 1, 1 << 31, 1<<40 - 1, 1 << 40}

// notNumbers are beginnings of payloads that are no number from 0 to 2^40.
var notNumbers = []string{
	"", num(-1), num(-2), num(-1 << 40), num(math.MinInt), num(1<<40 + 1), num(1<<40 + 2), num(1<<40 + 1<<32), num(1 << 41), num(math.MaxInt),
	"\x80", "\x80\x00", "\x82\x00", "\x80\x80\x00", "\xff", strings.Repeat("\x80", 9) + "\x02", strings.Repeat("\x80", 10), strings.Repeat("\xff", 10) + "\x01",
}

// texts are records, and texts of checkpoints.
var texts = []string{"", "a", "\x00", "\xff\xfe", "two words", "日本語", entry(1, "a"), strings.Repeat("x", 4000)}

// W1, step 3: the number and the text of a checkpoint.
func TestOpenSnap(t *testing.T) {
	for _, n := range marks {
		for _, text := range append(texts, strings.Repeat("y", 4096-len(num(n)))) {
			s := entry(n, text)
			d := stored("snap", s)
			acts := d.Acts()
			opened(t, d, n, text)
			opened(t, d, n, text)
			holds(t, "snap", d, "snap", s)
			if d.Acts() != acts {
				t.Error(d.Acts() - acts)
			}
		}
	}
}

// W1, step 3: a file snap that is anything but one frame of a number and a text; the log is not looked at then.
func TestOpenSnapWrong(t *testing.T) {
	wrong := []string{entry(1, "a") + entry(1, "a"), entry(1, "a") + entry(2, "b"), entry(1, "a") + "\x00", entry(1, "a") + "\xff", laid("") + entry(1, "a"), "\x00" + entry(1, "a"), laid(num(1) + strings.Repeat("x", 4096))}
	for _, n := range []int{0, 1, 64, 1 << 40} {
		s := entry(n, "text")
		for i := range len(s) {
			wrong = append(wrong, s[:i], s[i+1:], s[:i]+string([]byte{s[i] ^ 1})+s[i+1:])
		}
	}
	for _, head := range notNumbers {
		wrong = append(wrong, laid(head))
		if head != "" && head != "\x80" && head != "\xff" {
			wrong = append(wrong, laid(head+"text"))
		}
	}
	for _, s := range wrong {
		for _, log := range []string{"", entry(1, "a"), entry(1, "a") + "\x02", "\x01"} {
			d := stored("snap", s, "log", log)
			acts := d.Acts()
			refused(t, strconv.Quote(cut(s)), d, api.ErrWalForm)
			holds(t, "wrong snap", d, "snap", s, "log", log)
			if d.Acts() != acts {
				t.Error(d.Acts() - acts)
			}
		}
	}
}

// numberLists are all lists of at most so many of some numbers.
func numberLists(numbers []int, most int) [][]int {
	all := [][]int{nil}
	for start := 0; most > 0; most-- {
		end := len(all)
		for _, list := range all[start:end] {
			for _, n := range numbers {
				all = append(all, append(slices.Clone(list), n))
			}
		}
		start = end
	}
	return all
}

// W1, step 4: logs of all small lists of numbers behind all small checkpoints, whole or with a further frame cut off.
func TestOpenNumbers(t *testing.T) {
	for _, list := range numberLists([]int{-1, 0, 1, 2, 3, 4, 5}, 4) {
		for snap := -1; snap <= 4; snap++ { // -1 is none
			for _, tail := range []string{"", "\x02", "\xff"} {
				checkNumbers(t, snap, list, tail)
			}
		}
	}
}

// W1, step 4: numbers are from 0 to 2^40, also in the log.
func TestOpenNumbersLimit(t *testing.T) {
	const top = 1 << 40
	for _, list := range numberLists([]int{top - 2, top - 1, top, top + 1, top + 2, math.MaxInt, math.MinInt}, 3) {
		for snap := top - 3; snap <= top; snap++ {
			checkNumbers(t, snap, list, "")
		}
	}
	for _, head := range notNumbers {
		for _, before := range []string{"", entry(1, "a")} {
			for _, behind := range []string{"", "\x02", entry(1, "a"), entry(2, "b")} {
				s := before + laid(head) + behind
				d := stored("log", s)
				refused(t, strconv.Quote(cut(s)), d, api.ErrWalForm)
				holds(t, "wrong log", d, "log", s)
			}
		}
	}
}

// checkNumbers opens a log of records with these numbers behind a checkpoint.
func checkNumbers(t *testing.T, snap int, list []int, tail string) {
	t.Helper()
	log, text, after := "", "", max(snap, 0)
	var records []string
	good, seq := true, after
	for i, n := range list {
		record := "r" + strconv.Itoa(i)
		log += entry(n, record)
		if n > after {
			records, seq = append(records, record), n
		}
		good = good && n <= 1<<40 && n >= 1 && (n == list[0]+i) && list[0] <= after+1
	}
	d := stored("log", log+tail)
	if snap >= 0 {
		text = "text"
		d = stored("log", log+tail, "snap", entry(snap, text))
	}
	acts, before := d.Acts(), contents(d)
	w, s, l, e := wal.Open(d)
	if !good {
		if w != nil || s != "" || len(l) != 0 || e != api.ErrWalForm || d.Acts() != acts || !reflect.DeepEqual(contents(d), before) {
			t.Errorf("%v behind %d: %q %q %d", list, snap, s, l, e)
		}
		return
	}
	if w == nil || s != text || !slices.Equal(l, records) || e != api.OK || w.Seq() != seq {
		t.Errorf("%v behind %d: %q %q %d", list, snap, s, l, e)
		return
	}
	before["log"] = log
	if acts += 3 * len(tail); d.Acts() != acts || !reflect.DeepEqual(contents(d), before) {
		t.Errorf("%v behind %d: %d actions, %q", list, snap, d.Acts(), contents(d))
	}
}

// W1, step 4: a log with bytes of which no frame can come, wherever they are, is refused and left as it is.
func TestOpenLogBad(t *testing.T) {
	good := entries(1, "a", "", "long one")
	for _, bad := range []string{"\x01", "\x80\x00", "\xff\xff", laid(num(2) + strings.Repeat("x", 4096)), "\x00\x00\x00\x00\x00", "\x02b\x00\x00\x00\x00"} {
		for _, s := range []string{bad, good + bad, good + bad + entry(4, "b"), bad + good, good + bad + "\x02"} {
			d := stored("log", s)
			acts := d.Acts()
			refused(t, strconv.Quote(cut(s)), d, api.ErrWalForm)
			holds(t, "bad log", d, "log", s)
			if d.Acts() != acts {
				t.Error(d.Acts() - acts)
			}
		}
	}
	for i := range len(good) {
		for _, bit := range []byte{1, 16, 128} {
			s := good[:i] + string([]byte{good[i] ^ bit}) + good[i+1:]
			checkAll(t, []call{put("log", s), open(), open(), add("x"), open()})
			checkAll(t, []call{put("snap", s), open(), open(), add("x"), open()})
		}
	}
}

// W1, step 5: what is left of a frame is cut off, in a file that replaces the log at once; a log that has only whole frames is left alone.
func TestOpenCuts(t *testing.T) {
	for _, records := range [][]string{nil, {"a"}, {""}, {"a", "b"}, {strings.Repeat("x", 4000), "", "c"}} {
		good := entries(1, records...)
		next := entry(len(records)+1, "next one")
		for i := range len(next) + 1 {
			d := stored("log", good+next[:i], "snap", entry(0, "text"), "else", "y")
			acts := d.Acts()
			if i == len(next) {
				opened(t, d, len(records)+1, "text", append(slices.Clone(records), "next one")...)
				if d.Acts() != acts {
					t.Error(d.Acts() - acts)
				}
				continue
			}
			w := opened(t, d, len(records), "text", records...)
			holds(t, "cut", d, "log", good, "snap", entry(0, "text"), "else", "y")
			if cuts := d.Acts() - acts; cuts != 3 && i > 0 || cuts != 0 && i == 0 {
				t.Error(i, cuts)
			}
			want(t, "Append", w.Append("further"), api.OK)
			d.Restart(nil)
			holds(t, "cut", d, "log", good+entry(len(records)+1, "further"), "snap", entry(0, "text"), "else", "y")
		}
	}
}

// W1, step 5: the three actions, with the power going off at each: what is not synced may be lost, but never the log.
func TestOpenCutsSafely(t *testing.T) {
	good := entries(1, "a", "b")
	for n := 1; n <= 3; n++ {
		for keep := range len(good) + 1 {
			d := stored("log", good+"\x06xy")
			d.Arm(n)
			refused(t, "power off", d, api.ErrDiskPower)
			if d.Acts() != 2+n || !d.Off() {
				t.Error(n, d.Acts())
			}
			d.Restart([]int{0, keep})
			if n == 1 {
				holds(t, "power off", d, "log", good+"\x06xy")
			} else if n == 2 {
				holds(t, "power off", d, "log", good+"\x06xy", "new", good[:keep])
			} else {
				holds(t, "power off", d, "log", good+"\x06xy", "new", good)
			}
			opened(t, d, 2, "", "a", "b")
			holds(t, "again", d, "log", good)
		}
	}
}

// W1, step 5: without room for new, the disk's error is told; with the log in order, no room is needed.
func TestOpenFull(t *testing.T) {
	d := stored("log", entry(1, "a")+"\x02", "x", "", "y", "", "z", "")
	refused(t, "full disk", d, api.ErrDiskFull)
	holds(t, "full disk", d, "log", entry(1, "a")+"\x02", "x", "", "y", "", "z", "")
	d.Remove("x")
	opened(t, d, 1, "", "a")
	d = stored("log", entry(1, "a"), "x", "", "y", "", "z", "")
	opened(t, d, 1, "", "a")
}

// W2: Seq is the number of the last record, or of the checkpoint; it changes with a record, and with nothing else.
func TestSeq(t *testing.T) {
	d := disk.New()
	w := opened(t, d, 0, "")
	for i := range 200 {
		if w.Seq() != i || w.Seq() != i {
			t.Fatal(i, w.Seq())
		}
		want(t, "long", w.Append(strings.Repeat("x", 4096)), api.ErrWalLong)
		if i%7 == 0 {
			want(t, "Checkpoint", w.Checkpoint("c"+strconv.Itoa(i)), api.OK)
		}
		if w.Seq() != i {
			t.Fatal(i, w.Seq())
		}
		want(t, "Append", w.Append("r"), api.OK)
	}
	opened(t, d, 200, "c196", "r", "r", "r", "r")
}

// W2: the bytes of the files, and how many actions it takes.
func TestFiles(t *testing.T) {
	d := disk.New()
	w := opened(t, d, 0, "")
	step := func(e api.Errno, acts int, files ...string) {
		t.Helper()
		want(t, "call", e, api.OK)
		holds(t, "call", d, files...)
		if d.Acts() != acts {
			t.Error(d.Acts(), acts)
		}
		lasting := contents(d)
		if d.Restart(nil); !reflect.DeepEqual(contents(d), lasting) {
			t.Errorf("%q is left of %q", contents(d), lasting)
		}
	}
	step(w.Append("a"), 2, "log", entry(1, "a"))
	step(w.Append(""), 4, "log", entries(1, "a", ""))
	step(w.Append("\x00\xff"), 6, "log", entries(1, "a", "", "\x00\xff"))
	step(w.Checkpoint("text"), 10, "snap", entry(3, "text"))
	step(w.Checkpoint(""), 13, "snap", entry(3, ""))
	step(w.Append("d"), 15, "snap", entry(3, ""), "log", entry(4, "d"))
	step(w.Checkpoint("more"), 19, "snap", entry(4, "more"))
	step(w.Checkpoint("more"), 22, "snap", entry(4, "more"))
}

// W2: a checkpoint at the beginning has number 0, and the first record behind it 1.
func TestCheckpointFirst(t *testing.T) {
	d := disk.New()
	w := opened(t, d, 0, "")
	want(t, "Checkpoint", w.Checkpoint("none"), api.OK)
	if w = opened(t, d, 0, "none"); d.Acts() != 3 {
		t.Error(d.Acts())
	}
	want(t, "Append", w.Append("one"), api.OK)
	opened(t, d, 1, "none", "one")
	holds(t, "first", d, "snap", entry(0, "none"), "log", entry(1, "one"))
}

// W2: the longest record and the longest text depend on how many bytes the number has; what is too long is no action, and the log goes on.
func TestLong(t *testing.T) {
	for _, seq := range []int{0, 1, 62, 63, 64, 65, 8190, 8191, 8192, 1<<20 - 2, 1<<20 - 1, 1 << 20, 1<<34 - 1, 1 << 34, 1<<40 - 2, 1<<40 - 1} {
		for more := -2; more <= 2; more++ {
			d := stored("snap", entry(seq, "text"))
			w := opened(t, d, seq, "text")
			acts, wanted := d.Acts(), api.OK
			if more > 0 {
				wanted = api.ErrWalLong
			}
			record := strings.Repeat("r", 4096-len(num(seq+1))+more)
			want(t, "Append", w.Append(record), wanted)
			if more > 0 {
				if d.Acts() != acts || w.Seq() != seq {
					t.Error(seq, d.Acts()-acts, w.Seq())
				}
				w = opened(t, d, seq, "text")
			} else {
				w = opened(t, d, seq+1, "text", record)
			}
			acts, seq := d.Acts(), w.Seq()
			text := strings.Repeat("t", 4096-len(num(seq))+more)
			want(t, "Checkpoint", w.Checkpoint(text), wanted)
			if more > 0 {
				if d.Acts() != acts {
					t.Error(seq, d.Acts()-acts)
				}
				want(t, "Checkpoint", w.Checkpoint("short"), api.OK)
				opened(t, d, seq, "short")
			} else {
				opened(t, d, seq, text)
			}
		}
	}
	d := stored("log", entry(1, "a"))
	w := opened(t, d, 1, "", "a")
	for _, long := range []int{4096, 4097, 65536, 1 << 26} {
		want(t, "very long", w.Append(strings.Repeat("x", long)), api.ErrWalLong)
		want(t, "very long", w.Checkpoint(strings.Repeat("x", long)), api.ErrWalLong)
	}
	holds(t, "very long", d, "log", entry(1, "a"))
	want(t, "Append", w.Append("b"), api.OK)
	opened(t, d, 2, "", "a", "b")
}

// W2: records have numbers up to 2^40; there is no further one, but there are checkpoints.
func TestLastNumber(t *testing.T) {
	const top = 1 << 40
	d := stored("snap", entry(top-2, "text"))
	w := opened(t, d, top-2, "text")
	want(t, "Append", w.Append("a"), api.OK)
	want(t, "Append", w.Append(""), api.OK)
	for range 2 {
		acts := d.Acts()
		for _, record := range []string{"", "b", strings.Repeat("x", 5000)} {
			want(t, "Append", w.Append(record), api.ErrWalLong)
		}
		if w.Seq() != top || d.Acts() != acts {
			t.Error(w.Seq(), d.Acts())
		}
		w = opened(t, d, top, "text", "a", "")
	}
	want(t, "Checkpoint", w.Checkpoint("end"), api.OK)
	want(t, "Append", w.Append(""), api.ErrWalLong)
	w = opened(t, d, top, "end")
	want(t, "Append", w.Append(""), api.ErrWalLong)
	want(t, "Checkpoint", w.Checkpoint("END"), api.OK)
	opened(t, d, top, "END")
}

// W2: what is too long is told ahead of what the disk would say, and doesn't end the log; nothing else is told while the power is off.
func TestLongWithoutPower(t *testing.T) {
	long := strings.Repeat("x", 4096)
	for _, last := range []func(w *wal.Wal) api.Errno{
		func(w *wal.Wal) api.Errno { return w.Append("b") },
		func(w *wal.Wal) api.Errno { return w.Checkpoint("b") },
	} {
		d := disk.New()
		w := opened(t, d, 0, "")
		want(t, "Append", w.Append("a"), api.OK)
		d.Arm(1)
		want(t, "long", w.Append(long), api.ErrWalLong)
		want(t, "long", w.Checkpoint(long), api.ErrWalLong)
		d.Sync("log") // the power goes off, but not in a call of the log
		want(t, "long", w.Append(long), api.ErrWalLong)
		want(t, "long", w.Checkpoint(long), api.ErrWalLong)
		d.Restart(nil)
		want(t, "Append", w.Append("c"), api.OK)
		d.Arm(1)
		d.Sync("log")
		acts := d.Acts()
		want(t, "last", last(w), api.ErrDiskPower)
		want(t, "long behind it", w.Append(long), api.ErrDiskPower)
		if d.Acts() != acts || w.Seq() != 2 {
			t.Error(d.Acts()-acts, w.Seq())
		}
		d.Restart(nil)
		opened(t, d, 2, "", "a", "c")
	}
}

// W2: behind a log that ends ahead of the checkpoint's number, which no log writes by itself, the next record has the number behind the checkpoint's all the same.
func TestSeqBehindCheckpoint(t *testing.T) {
	d := stored("snap", entry(5, "text"), "log", entries(1, "a", "b", "c"))
	w := opened(t, d, 5, "text")
	want(t, "Append", w.Append("f"), api.OK)
	if w.Seq() != 6 {
		t.Error(w.Seq())
	}
	holds(t, "behind", d, "snap", entry(5, "text"), "log", entries(1, "a", "b", "c")+entry(6, "f"))
}

// broken checks that a log answers an error of its disk to everything, and does nothing, whatever happens to the disk.
func broken(t *testing.T, w *wal.Wal, d *disk.Disk, errno api.Errno, seq int) {
	t.Helper()
	check := func() {
		t.Helper()
		before, acts := contents(d), d.Acts()
		for _, text := range []string{"", "x", strings.Repeat("x", 4096)} {
			want(t, "Append", w.Append(text), errno)
			want(t, "Checkpoint", w.Checkpoint(text), errno)
		}
		if w.Seq() != seq || d.Acts() != acts || !reflect.DeepEqual(contents(d), before) {
			t.Errorf("%d, not %d; %d actions; %q, not %q", w.Seq(), seq, d.Acts()-acts, contents(d), before)
		}
	}
	check()
	d.Arm(1)
	check()
	d.Arm(0)
	d.Restart([]int{7, 7, 7, 7})
	check()
	d.Remove("x")
	d.Remove("y")
	check()
}

// W3: the power goes off at each action of Append.
func TestBrokenAppend(t *testing.T) {
	for n := 1; n <= 2; n++ {
		d := disk.New()
		w := opened(t, d, 0, "")
		want(t, "Append", w.Append("a"), api.OK)
		d.Arm(n)
		want(t, "Append", w.Append("b"), api.ErrDiskPower)
		broken(t, w, d, api.ErrDiskPower, 1)
		if n == 1 {
			w = opened(t, d, 1, "", "a")
		} else {
			w = opened(t, d, 2, "", "a", "b")
		}
		want(t, "Append", w.Append("c"), api.OK)
	}
}

// W3: the power goes off at each action of Checkpoint.
func TestBrokenCheckpoint(t *testing.T) {
	for n := 1; n <= 4; n++ {
		d := disk.New()
		w := opened(t, d, 0, "")
		want(t, "Append", w.Append("a"), api.OK)
		d.Arm(n)
		want(t, "Checkpoint", w.Checkpoint("A"), api.ErrDiskPower)
		broken(t, w, d, api.ErrDiskPower, 1)
		if n < 4 {
			w = opened(t, d, 1, "", "a")
		} else {
			holds(t, "not removed", d, "snap", entry(1, "A"), "log", entry(1, "a"))
			w = opened(t, d, 1, "A")
		}
		want(t, "Append", w.Append("b"), api.OK)
		if n < 4 {
			opened(t, d, 2, "", "a", "b")
		} else {
			opened(t, d, 2, "A", "b")
		}
		want(t, "Checkpoint", w.Checkpoint("B"), api.OK)
		holds(t, "again", d, "snap", entry(2, "B"))
	}
}

// W3: no room for a file is an error of the disk as well.
func TestBrokenFull(t *testing.T) {
	d := stored("x", "", "y", "", "z", "", "u", "")
	w := opened(t, d, 0, "")
	want(t, "Append", w.Append("a"), api.ErrDiskFull)
	broken(t, w, d, api.ErrDiskFull, 0)
	w = opened(t, d, 0, "")
	want(t, "Append", w.Append("a"), api.OK)
	d = stored("x", "", "y", "", "z", "", "log", entry(1, "a"))
	w = opened(t, d, 1, "", "a")
	want(t, "Append", w.Append("b"), api.OK)
	want(t, "Checkpoint", w.Checkpoint("A"), api.ErrDiskFull)
	broken(t, w, d, api.ErrDiskFull, 2)
	w = opened(t, d, 2, "", "a", "b")
	want(t, "Checkpoint", w.Checkpoint("AB"), api.OK)
	opened(t, d, 2, "AB")
}

// W3: a log fills its file to the last byte; the record that does not fit breaks it, until it is opened again.
func TestBrokenLong(t *testing.T) {
	d := disk.New()
	w := opened(t, d, 0, "")
	var records []string
	left := 65536
	for left > 4000 {
		record := strings.Repeat("x", 3000)
		records = append(records, record)
		want(t, "Append", w.Append(record), api.OK)
		left -= len(entry(len(records), record))
	}
	last := strings.Repeat("y", left-len(entry(len(records)+1, strings.Repeat("y", 1000)))+1000)
	want(t, "Append", w.Append(last), api.OK)
	records = append(records, last)
	if s, _ := d.Read("log"); len(s) != 65536 {
		t.Error(len(s))
	}
	want(t, "Append", w.Append(""), api.ErrDiskFull)
	broken(t, w, d, api.ErrDiskFull, len(records))
	w = opened(t, d, len(records), "", records...)
	want(t, "Checkpoint", w.Checkpoint("all"), api.OK)
	want(t, "Append", w.Append("z"), api.OK)
	opened(t, d, len(records)+1, "all", "z")
}

// state is what Open answers.
type state struct {
	text    string
	records string
	seq     int
}

// reopen opens a log, with what it has as a state.
func reopen(d *disk.Disk) (*wal.Wal, state, api.Errno) {
	w, text, records, e := wal.Open(d)
	if e != api.OK {
		return nil, state{}, e
	}
	return w, state{text, quoted(records), w.Seq()}, e
}

// after is the state behind a call that does all that it should.
func (s state) after(c call) state {
	switch c.kind {
	case doAppend:
		return state{s.text, s.records + strconv.Quote(c.text) + ";", s.seq + 1}
	case doCheckpoint:
		return state{c.text, "", s.seq}
	}
	return s
}

// interrupt plays calls on a new disk till the power goes off at an action, and returns the disk with the states that may be there then; ok is false if the power stays on.
func interrupt(t *testing.T, calls []call, action int) (d *disk.Disk, left, whole state, ok bool) {
	t.Helper()
	d = disk.New()
	r := &real{d: d}
	r.perform(open())
	d.Arm(action)
	for _, c := range calls {
		whole = left.after(c)
		if e := r.perform(c).errno; e == api.ErrDiskPower {
			return d, left, whole, true
		} else if e != api.OK {
			t.Fatal(brief(calls), e)
		}
		left = whole
	}
	return d, left, left, false
}

// scripts are calls for the theorem.
var scripts = [][]call{
	{add("a"), add("bc"), add("")},
	{mark("none"), add("a"), mark("A"), mark("B")},
	{add("a"), add("b"), mark("ab"), add("c"), open(), add("d"), mark("abcd"), add("e")},
	{add("a"), mark("A"), add("b"), mark("AB"), add("c"), mark("ABC")},
	{add(""), mark(""), add(""), open(), mark(""), add("")},
	{add(entry(2, "b")), mark(entry(9, "x")), add(entry(2, "b") + entry(3, "c"))},
}

// longest is more than the bytes that are not synced at any moment of the scripts.
const longest = 30

// W4: the power goes off at each action, and every part of what was not synced is kept: the next Open returns what was there, or all that the interrupted call would have left; opening again yields the same.
func TestTheorem(t *testing.T) {
	for _, calls := range scripts {
		for action := 1; ; action++ {
			if _, _, _, ok := interrupt(t, calls, action); !ok {
				break
			}
			for keep := range longest {
				for file := range 3 {
					d, left, whole, _ := interrupt(t, calls, action)
					choice := make([]int, 3)
					choice[file] = keep
					d.Restart(choice)
					checkTheorem(t, d, left, whole)
				}
			}
		}
	}
}

// checkTheorem opens a disk behind a power failure, again and again, and goes on with it.
func checkTheorem(t *testing.T, d *disk.Disk, left, whole state) {
	t.Helper()
	_, got, e := reopen(d)
	if e != api.OK || got != left && got != whole {
		t.Fatalf("%v %d, not %v nor %v", got, e, left, whole)
	}
	if exists(d, "new") {
		t.Fatal(d.List())
	}
	w, again, e := reopen(d)
	if e != api.OK || again != got {
		t.Fatalf("%v %d, not %v", again, e, got)
	}
	want(t, "Append", w.Append("more"), api.OK)
	got = got.after(add("more"))
	d.Restart(nil)
	if w, again, e = reopen(d); e != api.OK || again != got {
		t.Fatalf("%v %d, not %v", again, e, got)
	}
	want(t, "Checkpoint", w.Checkpoint("all"), api.OK)
	d.Restart(nil)
	if _, again, e = reopen(d); e != api.OK || again != got.after(mark("all")) {
		t.Fatalf("%v %d, not %v", again, e, got.after(mark("all")))
	}
}

// W4: the power goes off in Open as well, at each of its actions, once or twice.
func TestTheoremInOpen(t *testing.T) {
	for _, calls := range scripts {
		for action := 1; ; action++ {
			if _, _, _, ok := interrupt(t, calls, action); !ok {
				break
			}
			for keep := range longest {
				for second := 1; second <= 4; second++ {
					for _, third := range []int{0, 1, 2, 3, 4} {
						d, left, whole, _ := interrupt(t, calls, action)
						d.Restart([]int{keep, keep, keep})
						d.Arm(second)
						_, _, e := reopen(d)
						if e == api.OK {
							continue
						}
						want(t, "Open", e, api.ErrDiskPower)
						d.Restart([]int{keep / 2, 2 * keep, keep / 3})
						if d.Arm(third); third > 0 {
							reopen(d)
							d.Restart([]int{1, 2 * keep, keep})
						}
						checkTheorem(t, d, left, whole)
					}
				}
			}
		}
	}
}

// W4: long histories with a power failure every few actions.
func TestTheoremLong(t *testing.T) {
	random := rand.New(rand.NewSource(1))
	for range 300 {
		d := disk.New()
		var now state
		for range 100 {
			d.Arm(random.Intn(12))
			w, got, e := reopen(d)
			if e != api.OK {
				want(t, "Open", e, api.ErrDiskPower)
			} else if got != now {
				t.Fatalf("%v, not %v", got, now)
			}
			whole := now
			for w != nil && e == api.OK && random.Intn(8) > 0 {
				c := add(randomText(random))
				if random.Intn(4) == 0 {
					c = mark(randomText(random))
				}
				r := &real{d, w}
				whole = now.after(c)
				if e = r.perform(c).errno; e == api.OK {
					now = whole
				}
			}
			d.Restart([]int{random.Intn(60), random.Intn(60), random.Intn(60)})
			if _, got, e = reopen(d); e != api.OK || got != now && got != whole {
				t.Fatalf("%v %d, not %v nor %v", got, e, now, whole)
			}
			now = got
		}
	}
}

func randomText(random *rand.Rand) string {
	s := make([]byte, random.Intn(8)*random.Intn(8))
	random.Read(s)
	return string(s)
}

// W1, W2, W3: all short sequences of calls, with and without power failures and what somebody else does to the disk.
func TestSmall(t *testing.T) {
	some := []call{
		open(), add("a"), add("bc"), mark("A"), mark(""), arm(1), arm(2), restart(), restart(3, 5, 7),
		put("log", "\x06x"), put("log", entry(2, "o")), put("snap", entry(1, "S")), put("new", "n"), remove("log"), sync("log"),
	}
	var try func(calls []call, left int)
	try = func(calls []call, left int) {
		if t.Failed() {
			return
		}
		checkAll(t, calls)
		for _, c := range some {
			if left > 0 {
				try(append(slices.Clone(calls), c), left-1)
			}
		}
	}
	try([]call{open()}, 3)
	try([]call{open(), add("a"), add("b")}, 3)
	try([]call{open(), add("a"), mark("A"), add("b")}, 3)
	try([]call{put("log", entry(1, "a")+"\x04"), put("new", "n")}, 3)
}

// W1, W2, W3: long random sequences.
func TestRandom(t *testing.T) {
	random := rand.New(rand.NewSource(2))
	for range 3000 {
		var calls []call
		for range 40 {
			calls = append(calls, randomCall(random))
		}
		checkAll(t, calls)
	}
}

func randomCall(random *rand.Rand) call {
	name := []string{"log", "snap", "new", "else", "more", "most"}[random.Intn(6)]
	switch random.Intn(24) {
	case 0, 1, 2, 3, 4:
		return open()
	case 5, 6, 7, 8, 9, 10:
		return add(randomRecord(random))
	case 11, 12, 13:
		return mark(randomRecord(random))
	case 14, 15:
		return arm(random.Intn(8))
	case 16, 17, 18, 19:
		return restart(random.Intn(50), random.Intn(50), random.Intn(50), random.Intn(50))
	case 20:
		s := entry(random.Intn(5), randomText(random))
		return put(name, s[:random.Intn(len(s)+1)])
	case 21:
		return sync(name)
	default:
		return remove(name)
	}
}

// randomRecord is mostly short.
func randomRecord(random *rand.Rand) string {
	if random.Intn(20) == 0 {
		return strings.Repeat("x", 4090+random.Intn(8))
	}
	return randomText(random)
}

// W1: logs with any bytes in place of some of theirs, and with bytes left out and put in.
func TestOpenAnyBytes(t *testing.T) {
	random := rand.New(rand.NewSource(3))
	for range 20000 {
		snap := random.Intn(4)
		log := entries(1+random.Intn(snap+1), []string{"a", "", "bcd", "e"}[:random.Intn(5)]...)
		files := []string{entry(snap, "text"), log}
		which := random.Intn(2)
		if s := files[which]; s != "" {
			i := random.Intn(len(s))
			switch random.Intn(5) {
			case 0:
				s = s[:i]
			case 1:
				s = s[:i] + s[i+1:]
			case 2:
				s = s[:i] + string([]byte{byte(random.Intn(256))}) + s[i:]
			case 3:
				s = s[:i] + string([]byte{byte(random.Intn(256))}) + s[i+1:]
			}
			files[which] = s
		}
		checkAll(t, []call{put("snap", files[0]), put("log", files[1]), open(), add("x"), open(), mark("y"), open()})
	}
}

// R4: logs on different disks are independent of each other.
func TestLogsApart(t *testing.T) {
	var disks []*disk.Disk
	var logs []*wal.Wal
	for range 4 {
		d := disk.New()
		disks, logs = append(disks, d), append(logs, opened(t, d, 0, ""))
	}
	disks[3].Arm(4)
	for i := range 3 {
		record := strconv.Itoa(i)
		want(t, "Checkpoint", logs[0].Checkpoint("c"+record), api.OK)
		want(t, "Append", logs[1].Append(record), api.OK)
		want(t, "Append", logs[2].Append(record), api.OK)
		want(t, "Append", logs[2].Append(record), api.OK)
		wanted := api.OK
		if i > 0 {
			wanted = api.ErrDiskPower
		}
		want(t, "Append", logs[3].Append(record), wanted)
	}
	opened(t, disks[0], 0, "c2")
	opened(t, disks[1], 3, "", "0", "1", "2")
	opened(t, disks[2], 6, "", "0", "0", "1", "1", "2", "2")
	disks[3].Restart(nil)
	opened(t, disks[3], 1, "", "0")
}

// lent is a text whose memory the caller changes later on.
func lent(s string) (string, []byte) {
	memory := []byte(s)
	return unsafe.String(unsafe.SliceData(memory), len(memory)), memory
}

// R3: neither a record nor a text is kept.
func TestArgumentsNotKept(t *testing.T) {
	d := disk.New()
	w := opened(t, d, 0, "")
	for i, s := range []string{"one", "two", "three", "four"} {
		text, memory := lent(s)
		if i == 1 {
			want(t, "Checkpoint", w.Checkpoint(text), api.OK)
		} else {
			want(t, "Append", w.Append(text), api.OK)
		}
		clear(memory)
	}
	holds(t, "lent", d, "snap", entry(1, "two"), "log", entries(2, "three", "four"))
	opened(t, d, 3, "two", "three", "four")
}

// R3: what Open returns is new memory, and changes nothing of what is returned later.
func TestAnswersNew(t *testing.T) {
	d := stored("snap", entry(1, "text"), "log", entries(2, "a", "b", "c"))
	w, text, records, _ := wal.Open(d)
	_, textAgain, again, _ := wal.Open(d)
	all := append([]string{text, textAgain}, append(slices.Clone(records), again...)...)
	for i, s := range all {
		for _, other := range all[:i] {
			if unsafe.StringData(s) == unsafe.StringData(other) {
				t.Error("the same memory twice")
			}
		}
	}
	records[0] = "x"
	_ = append(records[:1], "y", "z")
	_ = append(again[:3:cap(again)], "w")
	if !slices.Equal(again, []string{"a", "b", "c"}) {
		t.Errorf("%q", again)
	}
	want(t, "Append", w.Append("d"), api.OK)
	opened(t, d, 5, "text", "a", "b", "c", "d")
}
