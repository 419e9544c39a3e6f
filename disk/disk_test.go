package disk_test

import (
	"math"
	"math/big"
	"math/rand"
	"reflect"
	"slices"
	"strings"
	"testing"
	"unsafe"

	"billet/api"
	"billet/disk"
)

// The calls of a disk.
const (
	doAppend = iota
	doSync
	doRename
	doRemove
	doRead
	doList
	doArm
	doOff
	doActs
	doRestart
	kinds
)

// call is one of them with its arguments; text is also Rename's second name.
type call struct {
	kind       int
	name, text string
	n          int
	keep       []int
}

// Short forms for tables.
func add(name, text string) call    { return call{kind: doAppend, name: name, text: text} }
func sync(name string) call         { return call{kind: doSync, name: name} }
func rename(name, text string) call { return call{kind: doRename, name: name, text: text} }
func remove(name string) call       { return call{kind: doRemove, name: name} }
func read(name string) call         { return call{kind: doRead, name: name} }
func arm(n int) call                { return call{kind: doArm, n: n} }
func restart(keep ...int) call      { return call{kind: doRestart, keep: keep} }

// answer is what a call answers.
type answer struct {
	errno api.Errno
	text  string
	names string // of List, each followed by a slash, which no name of these tests has
	n     int
	yes   bool
}

// perform makes a call.
func perform(d *disk.Disk, c call) answer {
	var a answer
	switch c.kind {
	case doAppend:
		a.errno = d.Append(c.name, c.text)
	case doSync:
		a.errno = d.Sync(c.name)
	case doRename:
		a.errno = d.Rename(c.name, c.text)
	case doRemove:
		a.errno = d.Remove(c.name)
	case doRead:
		a.text, a.errno = d.Read(c.name)
	case doList:
		a.names = joined(d.List())
	case doArm:
		a.errno = d.Arm(c.n)
	case doOff:
		a.yes = d.Off()
	case doActs:
		a.n = d.Acts()
	case doRestart:
		d.Restart(c.keep)
	}
	return a
}

func joined(names []string) string {
	s := ""
	for _, name := range names {
		s += name + "/"
	}
	return s
}

// isAction reports whether a call is an action as long as there is power.
func (c call) isAction() bool {
	return c.kind == doAppend || c.kind == doSync || c.kind == doRename || c.kind == doRemove
}

// play makes calls on a new disk.
func play(calls []call) *disk.Disk {
	d := disk.New()
	for _, c := range calls {
		perform(d, c)
	}
	return d
}

// content is a file by its synced bytes and the others.
type content struct{ lasting, loose string }

// model is a disk by the chapter's words: the power goes off at the action whose number is last, if that is not 0.
type model struct {
	files map[string]content
	acts  int
	last  int
	off   bool
}

func newModel() *model { return &model{files: map[string]content{}} }

func (m *model) names() []string {
	var names []string
	for name := range m.files {
		names = append(names, name)
	}
	slices.Sort(names)
	return names
}

// goodName reports whether a name has 1 to 12 bytes.
func goodName(s string) bool { return 0 < len(s) && len(s) < 13 }

// perform is what the chapter says of a call.
func (m *model) perform(c call) answer {
	if c.isAction() {
		return answer{errno: m.action(c)}
	}
	var a answer
	switch c.kind {
	case doRead:
		file, there := m.files[c.name]
		if m.off {
			a.errno = 100
		} else if !there {
			a.errno = 101
		} else {
			a.text = file.lasting + file.loose
		}
	case doList:
		a.names = joined(m.names())
	case doArm:
		if c.n < 0 || c.n > 1099511627776 {
			a.errno = 1
		} else if m.last = 0; c.n > 0 {
			m.last = m.acts + c.n
		}
	case doOff:
		a.yes = m.off
	case doActs:
		a.n = m.acts
	case doRestart:
		m.restart(c.keep)
	}
	return a
}

// action is what the chapter says of an action, or of its call while the power is off.
func (m *model) action(c call) api.Errno {
	if m.off {
		return 100
	}
	m.acts++
	if m.acts == m.last {
		m.off = true
		return 100
	}
	file, there := m.files[c.name]
	if c.kind == doAppend {
		return m.append(c)
	}
	if !there {
		return 101
	}
	switch c.kind {
	case doSync:
		m.files[c.name] = content{file.lasting + file.loose, ""}
	case doRename:
		if !goodName(c.text) {
			return 1
		}
		if c.name != c.text {
			m.files[c.text] = file
			delete(m.files, c.name)
		}
	case doRemove:
		delete(m.files, c.name)
	}
	return 0
}

func (m *model) append(c call) api.Errno {
	if !goodName(c.name) {
		return 1
	}
	file, there := m.files[c.name]
	if !there && len(m.files) == 4 {
		return 102
	}
	if len(file.lasting)+len(file.loose)+len(c.text) > 65536 {
		return 102
	}
	m.files[c.name] = content{file.lasting, file.loose + c.text}
	return 0
}

func (m *model) restart(keep []int) {
	for i, name := range m.names() {
		c := big.NewInt(0)
		if i < len(keep) {
			c.SetInt64(int64(keep[i]))
		}
		if c.Sign() < 0 {
			c.Add(c, big.NewInt(1)).Neg(c)
		}
		file := m.files[name]
		left := int(c.Mod(c, big.NewInt(int64(len(file.loose)+1))).Int64())
		m.files[name] = content{file.lasting + file.loose[:left], ""}
	}
	m.off, m.last = false, 0
}

// keepAll is the argument at which Restart keeps all bytes of each file.
func (m *model) keepAll() []int {
	var keep []int
	for _, name := range m.names() {
		keep = append(keep, len(m.files[name].loose))
	}
	return keep
}

// check compares a disk with the model without a change to either, and reports whether they are alike.
func check(t *testing.T, d *disk.Disk, m *model, calls []call) bool {
	t.Helper()
	seen := []call{{kind: doOff}, {kind: doActs}, {kind: doList}, read(""), read("none")}
	for _, name := range m.names() {
		seen = append(seen, read(name))
	}
	for _, c := range seen {
		if got, want := perform(d, c), m.perform(c); got != want {
			t.Errorf("%v then %v: %v, not %v", brief(calls), c, short(got), short(want))
			return false
		}
	}
	return true
}

// checkAll plays calls on a disk and on the model, compares each answer and what can be seen at the end, and what is left by a Restart that keeps nothing, one that keeps all, and a further one.
func checkAll(t *testing.T, calls []call) *model {
	t.Helper()
	for _, all := range []bool{false, true} {
		d, m := disk.New(), newModel()
		for i, c := range calls {
			if got, want := perform(d, c), m.perform(c); got != want {
				t.Errorf("%v: %v, not %v", brief(calls[:i+1]), short(got), short(want))
				return m
			}
		}
		if !check(t, d, m, calls) {
			return m
		}
		keep := restart()
		if all {
			keep = restart(m.keepAll()...)
		}
		perform(d, keep)
		m.perform(keep)
		check(t, d, m, append(slices.Clone(calls), keep))
	}
	m := newModel()
	for _, c := range calls {
		m.perform(c)
	}
	return m
}

// brief and short cut long texts, for messages.
func brief(calls []call) []call {
	var out []call
	for _, c := range calls {
		c.name, c.text = cut(c.name), cut(c.text)
		out = append(out, c)
	}
	return out
}

func short(a answer) answer {
	a.text = cut(a.text)
	return a
}

func cut(s string) string {
	if len(s) > 40 {
		return s[:40] + ".."
	}
	return s
}

// want tells if an error is another one than it should be.
func want(t *testing.T, what string, got, want api.Errno) {
	t.Helper()
	if got != want {
		t.Errorf("%s: %d, not %d", what, got, want)
	}
}

// contains tells if a file has other bytes than it should have.
func contains(t *testing.T, d *disk.Disk, name, text string) {
	t.Helper()
	if s, e := d.Read(name); s != text || e != api.OK {
		t.Errorf("%q: %q %d, not %q", name, cut(s), e, cut(text))
	}
}

// The chapter's example; K1, K4.
func TestExample(t *testing.T) {
	d := disk.New()
	want(t, "Append", d.Append("a", "xy"), api.OK)
	want(t, "Sync", d.Sync("a"), api.OK)
	want(t, "Append", d.Append("a", "zw"), api.OK)
	d.Restart([]int{1})
	contains(t, d, "a", "xyz")
	want(t, "Arm", d.Arm(1), api.OK)
	want(t, "Append", d.Append("a", "q"), api.ErrDiskPower)
	if s, e := d.Read("a"); s != "" || e != api.ErrDiskPower {
		t.Error(s, e)
	}
	d.Restart(nil)
	contains(t, d, "a", "xyz")
}

// K1: a new disk has no files, no actions, and power; it is not armed.
func TestNew(t *testing.T) {
	d := disk.New()
	if len(d.List()) != 0 || d.Off() || d.Acts() != 0 {
		t.Error(d.List(), d.Off(), d.Acts())
	}
	if s, e := d.Read("a"); s != "" || e != api.ErrDiskNone {
		t.Error(s, e)
	}
	for i := range 1000 {
		want(t, "Append", d.Append("a", "x"), api.OK)
		if d.Off() || d.Acts() != i+1 {
			t.Fatal(i, d.Off(), d.Acts())
		}
	}
}

// actions are all kinds of actions on a disk with the files a and b, with what they return.
var actions = []struct {
	c     call
	errno api.Errno
}{
	{add("a", "x"), api.OK}, {add("new", "x"), api.OK}, {add("new", ""), api.OK}, {add("", "x"), api.ErrArg},
	{add("thirteenbytes", "x"), api.ErrArg}, {add("a", strings.Repeat("x", 65536)), api.ErrDiskFull},
	{add("new", strings.Repeat("x", 65537)), api.ErrDiskFull},
	{sync("a"), api.OK}, {sync("none"), api.ErrDiskNone}, {sync(""), api.ErrDiskNone},
	{rename("a", "new"), api.OK}, {rename("a", "b"), api.OK}, {rename("a", "a"), api.OK}, {rename("none", "b"), api.ErrDiskNone},
	{rename("none", ""), api.ErrDiskNone}, {rename("a", ""), api.ErrArg}, {rename("a", "thirteenbytes"), api.ErrArg},
	{remove("a"), api.OK}, {remove("none"), api.ErrDiskNone}, {remove(""), api.ErrDiskNone},
}

// prepared are the calls that lay a and b, partly synced.
var prepared = []call{add("a", "one"), sync("a"), add("a", "two"), add("b", "three")}

// K1: each call of the four is an action while the power is on, whatever it returns, and no other call is one.
func TestActs(t *testing.T) {
	for _, a := range actions {
		calls := append(slices.Clone(prepared), a.c)
		checkAll(t, calls)
		d := play(prepared)
		want(t, "action", perform(d, a.c).errno, a.errno)
		if d.Acts() != 5 {
			t.Error(brief(calls), d.Acts())
		}
	}
	others := []call{read("a"), read("none"), {kind: doList}, arm(0), arm(3), arm(-1), {kind: doOff}, {kind: doActs}, restart(1, 2)}
	for _, c := range others {
		d := play(prepared)
		if perform(d, c); d.Acts() != 4 {
			t.Error(c, d.Acts())
		}
	}
}

// K1: the action with which the disk is armed returns ErrDiskPower ahead of every other error and does nothing, and so does every later call of the four, which is no action; the actions ahead of it are done.
func TestArm(t *testing.T) {
	for _, a := range actions {
		for ahead := range 6 {
			calls := append(slices.Clone(prepared), arm(ahead+1))
			for i := range ahead {
				calls = append(calls, []call{add("a", "four"), sync("none"), sync("b"), rename("b", "c"), remove("none")}[i])
			}
			d, before := play(calls), play(calls)
			if d.Off() || d.Acts() != 4+ahead {
				t.Fatal(brief(calls), d.Off(), d.Acts())
			}
			calls = append(calls, a.c)
			want(t, "armed action", perform(d, a.c).errno, api.ErrDiskPower)
			for _, later := range actions {
				want(t, "later call", perform(d, later.c).errno, api.ErrDiskPower)
			}
			if !d.Off() || d.Acts() != 5+ahead || !slices.Equal(d.List(), before.List()) {
				t.Error(brief(calls), d.Off(), d.Acts(), d.List())
			}
			keep := []int{2, 3}
			d.Restart(keep)
			before.Restart(keep)
			if d.Off() || !reflect.DeepEqual(files(d), files(before)) {
				t.Error(brief(calls), d.Off(), files(d), files(before))
			}
			want(t, "action with power", perform(d, sync("a")).errno, api.OK)
			checkAll(t, calls)
		}
	}
}

// files are the names and bytes of all files of a disk with power.
func files(d *disk.Disk) map[string]string {
	all := map[string]string{}
	for _, name := range d.List() {
		all[name], _ = d.Read(name)
	}
	return all
}

// K1: Arm is wrong below 0 and above 2^40.
func TestArmLimits(t *testing.T) {
	for _, c := range []struct {
		n     int
		errno api.Errno
	}{
		{0, api.OK}, {1, api.OK}, {2, api.OK}, {1 << 31, api.OK}, {1 << 32, api.OK}, {1<<40 - 1, api.OK}, {1 << 40, api.OK},
		{-1, api.ErrArg}, {-2, api.ErrArg}, {1<<40 + 1, api.ErrArg}, {1 << 41, api.ErrArg}, {1<<40 + 1<<32, api.ErrArg},
		{math.MaxInt, api.ErrArg}, {math.MaxInt - 1, api.ErrArg}, {math.MinInt, api.ErrArg}, {math.MinInt + 1, api.ErrArg}, {-1 << 40, api.ErrArg}, {-1<<32 + 1, api.ErrArg},
	} {
		d := disk.New()
		want(t, "Arm", d.Arm(c.n), c.errno)
		if e := d.Append("a", "x"); (e == api.ErrDiskPower) != (c.n == 1) {
			t.Error(c.n, e)
		}
	}
}

// K1: Arm replaces an earlier one, Arm(0) takes it back, and a wrong one leaves it as it is.
func TestArmAgain(t *testing.T) {
	far := []int{0, 1, 2, 3, 4, 5, -1, math.MinInt, 1 << 40, 1<<40 + 1, math.MaxInt}
	for _, first := range far {
		for _, second := range far {
			for between := range 3 {
				calls := []call{arm(first)}
				for range between {
					calls = append(calls, add("a", "x"))
				}
				calls = append(calls, arm(second))
				for range 6 {
					calls = append(calls, add("a", "y"), call{kind: doOff}, call{kind: doActs})
				}
				checkAll(t, calls)
			}
		}
	}
}

// K1: Arm is no action and needs no power; a Restart takes it back, so that the power goes off once.
func TestArmOff(t *testing.T) {
	for _, n := range []int{0, 1, 2, 3} {
		d := play([]call{add("a", "x"), arm(1), sync("a")})
		want(t, "Arm", d.Arm(n), api.OK)
		want(t, "wrong Arm", d.Arm(-1), api.ErrArg)
		want(t, "Append", d.Append("a", "y"), api.ErrDiskPower)
		if !d.Off() || d.Acts() != 2 {
			t.Error(n, d.Off(), d.Acts())
		}
		d.Restart([]int{1})
		for range 10 {
			want(t, "Append", d.Append("a", "y"), api.OK)
		}
		contains(t, d, "a", "xyyyyyyyyyy")
	}
}

// K1: Off and Acts are as they are, however often they are asked.
func TestAsked(t *testing.T) {
	d := play([]call{add("a", "x"), arm(2), sync("a")})
	for range 100 {
		if d.Off() || d.Acts() != 2 {
			t.Fatal(d.Off(), d.Acts())
		}
	}
	want(t, "Sync", d.Sync("a"), api.ErrDiskPower)
	for range 100 {
		if !d.Off() || d.Acts() != 3 {
			t.Fatal(d.Off(), d.Acts())
		}
	}
}

// K2: a name has 1 to 12 bytes, whichever they are; a file may be empty.
func TestAppendNames(t *testing.T) {
	for long := range 30 {
		name := strings.Repeat("n", long)
		for _, text := range []string{"", "x", strings.Repeat("y", 65537)} {
			checkAll(t, []call{add(name, text), read(name), add(name, text)})
		}
		e := disk.New().Append(name, "")
		if good := long >= 1 && long <= 12; good != (e == api.OK) || !good && e != api.ErrArg {
			t.Error(long, e)
		}
	}
	for _, name := range []string{"\x00", "\xff\xfe", "a/b", " ", "\n", "é", "éééééé", "日本語", "A", ".", "..", strings.Repeat("\x00", 12), "a\x00", "new", "log"} {
		d := disk.New()
		want(t, name, d.Append(name, "x"), api.OK)
		want(t, name, d.Append(name, "y"), api.OK)
		contains(t, d, name, "xy")
		if !slices.Equal(d.List(), []string{name}) {
			t.Errorf("%q", d.List())
		}
	}
	for _, name := range []string{"ééééééé", "日本語日本", strings.Repeat("\x00", 13), strings.Repeat("a", 256), strings.Repeat("a", 268), strings.Repeat("a", 1<<16+3), strings.Repeat("a", 1<<24)} {
		want(t, cut(name), disk.New().Append(name, "x"), api.ErrArg)
	}
}

// K2: what is appended stands behind what the file has, byte by byte.
func TestAppendBytes(t *testing.T) {
	d := disk.New()
	all := ""
	for i := range 512 {
		piece := strings.Repeat(string([]byte{byte(i)}), i%5)
		want(t, "Append", d.Append("a", piece), api.OK)
		all += piece
		contains(t, d, "a", all)
	}
	if d.Acts() != 512 {
		t.Error(d.Acts())
	}
}

// K2: there are at most 4 files; those that were removed or replaced don't count, and none is created by what fails.
func TestAppendFiles(t *testing.T) {
	four := []call{add("a", "1"), add("b", ""), add("c", "3"), add("d", "4")}
	for _, between := range [][]call{
		nil, {remove("b")}, {remove("e")}, {rename("a", "b")}, {rename("a", "e")}, {rename("a", "a")}, {rename("b", "")}, {sync("a")},
		{restart()}, {restart(9, 9, 9, 9)}, {remove("a"), remove("b"), remove("c"), remove("d")},
		{add("e", "")}, {add("", "x")}, {add("thirteenbytes", "x")}, {arm(1), remove("a"), restart()},
	} {
		for n := 1; n <= 4; n++ {
			calls := slices.Concat(four[:n], between, []call{add("e", "5"), add("f", "6"), add("g", "7"), add("a", "8"), add("d", "9")})
			checkAll(t, calls)
		}
	}
	d := play(four)
	for _, name := range []string{"e", "aa", "A", "\x00", "twelve bytes"} {
		want(t, "fifth file", d.Append(name, ""), api.ErrDiskFull)
		want(t, "fifth file", d.Append(name, "x"), api.ErrDiskFull)
	}
	want(t, "wrong name of a fifth file", d.Append("", "x"), api.ErrArg)
	want(t, "wrong name of a fifth file", d.Append("thirteenbytes", strings.Repeat("x", 65537)), api.ErrArg)
	want(t, "file that is there", d.Append("b", "x"), api.OK)
	if !slices.Equal(d.List(), []string{"a", "b", "c", "d"}) {
		t.Error(d.List())
	}
}

// K2: files come and go without end.
func TestAppendComeAndGo(t *testing.T) {
	d := play([]call{add("a", "1"), add("b", "2"), add("c", "3")})
	for i := range 20000 {
		want(t, "Append", d.Append("d", "x"), api.OK)
		want(t, "fifth file", d.Append("e", "x"), api.ErrDiskFull)
		if i%2 == 0 {
			want(t, "Remove", d.Remove("d"), api.OK)
		} else {
			want(t, "Rename", d.Rename("d", "c"), api.OK)
		}
	}
	if !reflect.DeepEqual(files(d), map[string]string{"a": "1", "b": "2", "c": "x"}) {
		t.Error(files(d))
	}
}

// K2: a file has at most 65536 bytes, however they come; what would be more is not appended at all.
func TestAppendLong(t *testing.T) {
	sizes := []int{0, 1, 2, 32767, 32768, 32769, 65534, 65535, 65536, 65537, 65538, 131072}
	for _, first := range sizes {
		for _, second := range sizes {
			calls := []call{add("a", strings.Repeat("x", first)), add("a", strings.Repeat("y", second))}
			m := checkAll(t, calls)
			d := play(calls)
			s, _ := d.Read("a")
			wanted := 0
			for _, size := range []int{first, second} {
				if wanted+size <= 65536 {
					wanted += size
				}
			}
			if len(s) != wanted {
				t.Error(first, second, len(s))
			}
			if there := first <= 65536 || second <= 65536; there != (len(d.List()) == 1) || there != (len(m.files) == 1) {
				t.Error(first, second, d.List())
			}
			checkAll(t, append(calls, sync("a"), add("a", "z"), add("a", ""), add("a", strings.Repeat("z", 65536)), add("b", "z")))
		}
	}
	d := disk.New()
	for range 65536 {
		want(t, "Append", d.Append("a", "x"), api.OK)
	}
	want(t, "Append", d.Append("a", "x"), api.ErrDiskFull)
	want(t, "Append", d.Append("a", ""), api.OK)
	contains(t, d, "a", strings.Repeat("x", 65536))
	want(t, "very long", d.Append("b", strings.Repeat("x", 1<<26)), api.ErrDiskFull)
	want(t, "very long", d.Append("a", strings.Repeat("x", 1<<26)), api.ErrDiskFull)
	if !slices.Equal(d.List(), []string{"a"}) {
		t.Error(d.List())
	}
}

// The section Sync: all bytes of this file are synced, and of no other one.
func TestSync(t *testing.T) {
	for _, c := range []struct {
		calls []call
		left  map[string]string
	}{
		{[]call{add("a", "x")}, map[string]string{"a": ""}},
		{[]call{add("a", "x"), sync("a")}, map[string]string{"a": "x"}},
		{[]call{add("a", "x"), sync("a"), sync("a")}, map[string]string{"a": "x"}},
		{[]call{add("a", "x"), sync("a"), add("a", "y")}, map[string]string{"a": "x"}},
		{[]call{add("a", "x"), add("a", "y"), sync("a")}, map[string]string{"a": "xy"}},
		{[]call{add("a", "x"), sync("a"), add("a", "y"), sync("a")}, map[string]string{"a": "xy"}},
		{[]call{add("a", "x"), add("b", "y"), sync("a")}, map[string]string{"a": "x", "b": ""}},
		{[]call{add("a", "x"), add("b", "y"), sync("b")}, map[string]string{"a": "", "b": "y"}},
		{[]call{add("a", ""), sync("a")}, map[string]string{"a": ""}},
		{[]call{add("a", "x"), sync("b"), sync("")}, map[string]string{"a": ""}},
		{[]call{add("a", "x"), arm(1), sync("a")}, map[string]string{"a": ""}},
		{[]call{add("a", "x"), arm(1), remove("b"), sync("a")}, map[string]string{"a": ""}},
		{[]call{add("a", "x"), restart(1)}, map[string]string{"a": "x"}},
	} {
		checkAll(t, c.calls)
		d := play(c.calls)
		if d.Restart(nil); !reflect.DeepEqual(files(d), c.left) {
			t.Error(brief(c.calls), files(d))
		}
	}
	d := play(prepared)
	for _, name := range []string{"", "c", "aa", "A", "thirteenbytes", strings.Repeat("a", 1<<20)} {
		want(t, cut(name), d.Sync(name), api.ErrDiskNone)
	}
}

// The section Rename: a file keeps its bytes, and which of them are synced, under its new name; whatever had that name is gone, also what it had synced.
func TestRename(t *testing.T) {
	for _, c := range []struct {
		calls     []call
		now, left map[string]string
	}{
		{[]call{rename("a", "c")}, map[string]string{"c": "onetwo", "b": "three"}, map[string]string{"c": "one", "b": ""}},
		{[]call{rename("a", "b")}, map[string]string{"b": "onetwo"}, map[string]string{"b": "one"}},
		{[]call{rename("b", "a")}, map[string]string{"a": "three"}, map[string]string{"a": ""}},
		{[]call{rename("a", "a")}, map[string]string{"a": "onetwo", "b": "three"}, map[string]string{"a": "one", "b": ""}},
		{[]call{rename("a", "c"), rename("c", "a")}, map[string]string{"a": "onetwo", "b": "three"}, map[string]string{"a": "one", "b": ""}},
		{[]call{rename("a", "c"), rename("b", "a"), rename("c", "b")}, map[string]string{"b": "onetwo", "a": "three"}, map[string]string{"b": "one", "a": ""}},
		{[]call{rename("a", "c"), add("c", "four"), sync("c")}, map[string]string{"c": "onetwofour", "b": "three"}, map[string]string{"c": "onetwofour", "b": ""}},
		{[]call{rename("a", "c"), add("a", "new")}, map[string]string{"a": "new", "c": "onetwo", "b": "three"}, map[string]string{"a": "", "c": "one", "b": ""}},
		{[]call{rename("a", "twelve bytes")}, map[string]string{"twelve bytes": "onetwo", "b": "three"}, map[string]string{"twelve bytes": "one", "b": ""}},
	} {
		calls := append(slices.Clone(prepared), c.calls...)
		checkAll(t, calls)
		d := play(calls)
		if !reflect.DeepEqual(files(d), c.now) {
			t.Error(c.calls, files(d))
		}
		if d.Restart(nil); !reflect.DeepEqual(files(d), c.left) {
			t.Error(c.calls, files(d))
		}
	}
	for long := range 30 {
		to := strings.Repeat("n", long)
		checkAll(t, append(slices.Clone(prepared), rename("a", to), rename("none", to), rename("", to), rename(to, "c")))
	}
	d := play(prepared)
	for _, to := range []string{"", "b", "none", "thirteenbytes", strings.Repeat("a", 1<<20)} {
		for _, from := range []string{"", "none", "thirteenbytes", strings.Repeat("a", 1<<20)} {
			want(t, cut(from), d.Rename(from, to), api.ErrDiskNone)
		}
	}
	for _, to := range []string{"", "thirteenbytes", strings.Repeat("a", 268), strings.Repeat("a", 1<<20)} {
		want(t, cut(to), d.Rename("a", to), api.ErrArg)
	}
	if !reflect.DeepEqual(files(d), map[string]string{"a": "onetwo", "b": "three"}) {
		t.Error(files(d))
	}
}

// The section Remove: a file is gone with what it had synced; names are durable at once, the names of new files too.
func TestRemove(t *testing.T) {
	for _, c := range []struct {
		calls []call
		left  map[string]string
	}{
		{[]call{remove("a")}, map[string]string{"b": ""}},
		{[]call{remove("b")}, map[string]string{"a": "one"}},
		{[]call{remove("a"), remove("a"), remove("b"), remove("b")}, map[string]string{}},
		{[]call{remove("a"), add("a", "")}, map[string]string{"a": "", "b": ""}},
		{[]call{remove("a"), add("a", "new"), sync("a")}, map[string]string{"a": "new", "b": ""}},
		{[]call{add("c", "")}, map[string]string{"a": "one", "b": "", "c": ""}},
		{[]call{rename("b", "c")}, map[string]string{"a": "one", "c": ""}},
		{[]call{arm(1), remove("a")}, map[string]string{"a": "one", "b": ""}},
	} {
		calls := append(slices.Clone(prepared), c.calls...)
		checkAll(t, calls)
		d := play(calls)
		if d.Restart(nil); !reflect.DeepEqual(files(d), c.left) {
			t.Error(c.calls, files(d))
		}
	}
	d := play(prepared)
	for _, name := range []string{"", "c", "aa", "A", "thirteenbytes", strings.Repeat("a", 1<<20)} {
		want(t, cut(name), d.Remove(name), api.ErrDiskNone)
	}
}

// K3: Read returns all bytes, synced or not, and needs power ahead of a file.
func TestRead(t *testing.T) {
	d := play(prepared)
	contains(t, d, "a", "onetwo")
	contains(t, d, "b", "three")
	wrong := []string{"", "c", "aa", "A", "thirteenbytes", strings.Repeat("a", 1<<20)}
	for _, name := range wrong {
		if s, e := d.Read(name); s != "" || e != api.ErrDiskNone {
			t.Error(cut(name), s, e)
		}
	}
	perform(d, arm(1))
	perform(d, sync("none"))
	for _, name := range append(wrong, "a", "b") {
		if s, e := d.Read(name); s != "" || e != api.ErrDiskPower {
			t.Error(cut(name), s, e)
		}
	}
	d.Restart(nil)
	contains(t, d, "a", "one")
	contains(t, d, "b", "")
}

// K3: List has all names, ascending by their bytes, in whatever order the files came, with power or without.
func TestList(t *testing.T) {
	sorted := []string{"\x00", "\x00\x00", "1", "10", "2", "A", "Z", "a", "a\x00", "aa", "ab", "b", "z", "\x80", "é", "\xff", "\xff\xff"}
	random := rand.New(rand.NewSource(1))
	for range 3000 {
		n := random.Intn(5)
		var wanted []string
		for _, i := range random.Perm(len(sorted))[:n] {
			wanted = append(wanted, sorted[i])
		}
		d := disk.New()
		for _, name := range wanted {
			want(t, name, d.Append(name, ""), api.OK)
		}
		slices.SortFunc(wanted, func(a, b string) int { return slices.Index(sorted, a) - slices.Index(sorted, b) })
		for range 2 {
			if got := d.List(); !slices.Equal(got, wanted) {
				t.Fatalf("%q, not %q", got, wanted)
			}
			perform(d, arm(1))
			perform(d, remove("none"))
		}
		if !d.Off() {
			t.Fatal("the power is on")
		}
	}
}

// K4: how much of what is not synced is left, for each choice, of each number of bytes.
func TestRestartChoices(t *testing.T) {
	text := "abcdefghijklmnop"
	choices := []int{math.MinInt, math.MinInt + 1, math.MinInt + 2, math.MaxInt, math.MaxInt - 1, 1 << 32, 1<<32 + 1, -1 << 32, -1<<32 - 1, 1 << 62, -1 << 62}
	for c := -40; c <= 40; c++ {
		choices = append(choices, c)
	}
	for lasting := range 4 {
		for loose := range 13 {
			for _, c := range choices {
				calls := []call{add("a", text[:lasting]), sync("a"), add("a", text[lasting:lasting+loose])}
				m := checkAll(t, append(calls, restart(c)))
				d := play(calls)
				d.Restart([]int{c})
				contains(t, d, "a", m.files["a"].lasting)
				if d.Off() || d.Acts() != 3 {
					t.Error(d.Off(), d.Acts())
				}
			}
		}
	}
	for _, c := range []struct {
		choice int
		left   string
	}{
		{0, "x"}, {1, "xy"}, {2, "xyz"}, {3, "x"}, {4, "xy"}, {5, "xyz"}, {-1, "x"}, {-2, "xy"}, {-3, "xyz"}, {-4, "x"}, {-5, "xy"},
		{math.MaxInt, "xy"}, {math.MinInt, "xy"}, {math.MaxInt - 1, "x"}, {math.MinInt + 1, "x"}, {math.MaxInt - 2, "xyz"}, {math.MinInt + 2, "xyz"},
	} {
		d := play([]call{add("a", "x"), sync("a"), add("a", "yz")})
		d.Restart([]int{c.choice})
		contains(t, d, "a", c.left)
	}
}

// K4: a long file, of which each number of bytes may be left.
func TestRestartLong(t *testing.T) {
	text := strings.Repeat("0123456789abcdef", 4096)
	for _, lasting := range []int{0, 1, 32768, 65535, 65536} {
		for _, c := range []int{0, 1, 255, 256, 32767, 32768, 65534, 65535, 65536, 65537, 131073, -1, -65536, -65537, -65538} {
			checkAll(t, []call{add("a", text[:lasting]), sync("a"), add("a", text[lasting:]), restart(c), add("a", "x"), add("a", text)})
		}
	}
}

// K4: the choices are for the files in the order of their names; where there is none it is 0, and those beyond the files do nothing.
func TestRestartOrder(t *testing.T) {
	for _, names := range [][]string{{"a", "b", "c", "d"}, {"d", "c", "b", "a"}, {"b", "d", "a", "c"}, {"c", "aa", "A", "\xff"}, {"b", "a"}, {"z"}, {}} {
		for n := range 7 {
			var calls []call
			for i, name := range names {
				calls = append(calls, add(name, strings.Repeat("s", i)), sync(name), add(name, "123456"))
			}
			calls = append(calls, arm(1), sync("none"), restart([]int{1, 3, 5, 2, 4, 6}[:n]...))
			m := checkAll(t, calls)
			if d := play(calls); d.Off() || len(files(d)) != len(m.files) {
				t.Error(names, n, files(d))
			}
		}
	}
	d := play([]call{add("c", "123"), add("a", "123"), add("d", "123"), add("b", "123")})
	d.Restart([]int{1, 2, 3})
	if !reflect.DeepEqual(files(d), map[string]string{"a": "1", "b": "12", "c": "123", "d": ""}) {
		t.Error(files(d))
	}
}

// K4: a Restart with the power on loses as much, and takes back what was armed.
func TestRestartOn(t *testing.T) {
	for n := range 4 {
		d := play(append(slices.Clone(prepared), arm(n), restart(2, 4)))
		if d.Off() || d.Acts() != 4 || !reflect.DeepEqual(files(d), map[string]string{"a": "onetw", "b": "thre"}) {
			t.Error(d.Off(), d.Acts(), files(d))
		}
		for range 5 {
			want(t, "action", d.Sync("a"), api.OK)
		}
	}
}

// K4: all bytes that are left are synced, and what was lost does not come again.
func TestRestartSyncs(t *testing.T) {
	d := play([]call{add("a", "12345"), restart(3), add("a", "6789")})
	contains(t, d, "a", "1236789")
	d.Restart([]int{2})
	contains(t, d, "a", "12367")
	d.Restart([]int{100})
	contains(t, d, "a", "12367")
	want(t, "Append", d.Append("a", ""), api.OK)
	d.Restart([]int{7})
	contains(t, d, "a", "12367")
}

// K1 to K4: all short sequences of a few calls are as the chapter says.
func TestSmall(t *testing.T) {
	few := []call{
		add("a", "x"), add("a", "yz"), add("b", "w"), add("", "x"), sync("a"), sync("b"), rename("a", "b"), rename("b", "a"), rename("b", "b"), rename("b", ""),
		remove("a"), remove("b"), read("a"), arm(0), arm(1), arm(2), arm(-1), restart(), restart(1), restart(-2, 2),
	}
	var all func(calls []call, more int)
	count := 0
	all = func(calls []call, more int) {
		if t.Failed() {
			return
		}
		checkAll(t, calls)
		count++
		for _, c := range few {
			if more > 0 {
				all(append(slices.Clone(calls), c), more-1)
			}
		}
	}
	all(nil, 3)
	all([]call{add("a", "01"), sync("a"), add("a", "23"), add("b", "45")}, 3)
	if count != 2*(1+20+400+8000) {
		t.Error(count)
	}
}

// texts are the ones that randomCall appends, mostly the short ones.
var texts = []string{"", "x", "12", "345", "6789a", strings.Repeat("q", 30000), strings.Repeat("r", 65535), strings.Repeat("s", 65537)}

// randomCall is any call, the likely ones more often than the others.
func randomCall(random *rand.Rand) call {
	names := []string{"a", "b", "c", "d", "e", "a", "b", "c", "twelve bytes", "", "thirteenbytes", "none"}
	name := func() string { return names[random.Intn(len(names))] }
	text := texts[random.Intn(5)]
	if random.Intn(20) == 0 {
		text = texts[random.Intn(len(texts))]
	}
	switch kind := random.Intn(20); {
	case kind < 6:
		return add(name(), text)
	case kind < 9:
		return sync(name())
	case kind < 12:
		return rename(name(), name())
	case kind < 14:
		return remove(name())
	case kind < 15:
		return read(name())
	case kind < 17:
		return arm([]int{0, 1, 2, 3, 5, 9, 30, -1, 1 << 40, 1<<40 + 1, math.MinInt, math.MaxInt}[random.Intn(12)])
	case kind < 19:
		return restart(randomKeep(random)...)
	default:
		return call{kind: []int{doList, doOff, doActs}[random.Intn(3)]}
	}
}

func randomKeep(random *rand.Rand) []int {
	keep := make([]int, random.Intn(6))
	for i := range keep {
		keep[i] = random.Intn(20) - 5
		if random.Intn(10) == 0 {
			keep[i] = int(random.Uint64())
		}
	}
	return keep
}

// K1 to K4: long random sequences are as the chapter says; the counts tell that they come to what matters.
func TestRandom(t *testing.T) {
	random := rand.New(rand.NewSource(2))
	counts := map[[2]int]int{}
	four := 0
	for range 1500 {
		var calls []call
		for range random.Intn(60) {
			calls = append(calls, randomCall(random))
		}
		checkAll(t, calls)
		m := newModel()
		for _, c := range calls {
			counts[[2]int{c.kind, int(m.perform(c).errno)}]++
			if len(m.files) == 4 {
				four++
			}
		}
		if t.Failed() {
			return
		}
	}
	for _, k := range [][2]int{
		{doAppend, 0}, {doAppend, 1}, {doAppend, 100}, {doAppend, 102}, {doSync, 0}, {doSync, 100}, {doSync, 101}, {doRename, 0}, {doRename, 1}, {doRename, 100}, {doRename, 101},
		{doRemove, 0}, {doRemove, 100}, {doRemove, 101}, {doRead, 0}, {doRead, 100}, {doRead, 101}, {doArm, 0}, {doArm, 1}, {doRestart, 0},
	} {
		if counts[k] < 50 {
			t.Error(k, counts[k])
		}
	}
	if four < 1000 {
		t.Error(four)
	}
}

// K5: after every Restart each file has what was synced and a prefix of what came since; told by the disk's own answers alone. A second Restart changes nothing.
func TestTheoremPrefix(t *testing.T) {
	random := rand.New(rand.NewSource(3))
	restarts, losses, partial := 0, 0, 0
	for range 2000 {
		d := disk.New()
		synced, now := map[string]string{}, map[string]string{}
		for range 40 {
			c := randomCall(random)
			e := perform(d, c).errno
			if c.kind == doRestart {
				restarts++
				after := files(d)
				if len(after) != len(now) {
					t.Fatal(after, now)
				}
				for name, text := range after {
					if !strings.HasPrefix(text, synced[name]) || !strings.HasPrefix(now[name], text) {
						t.Fatalf("%q: %q, of %q with %q synced", name, text, now[name], synced[name])
					}
					if text != now[name] {
						losses++
					}
					if text != now[name] && text != synced[name] {
						partial++
					}
				}
				if d.Restart(randomKeep(random)); !reflect.DeepEqual(files(d), after) || d.Off() {
					t.Fatal(files(d), after)
				}
				synced, now = files(d), files(d)
			}
			if e == api.OK {
				follow(d, synced, c)
			}
			if !d.Off() {
				now = files(d)
			}
		}
	}
	if restarts < 5000 || losses < 2000 || partial < 1000 {
		t.Error(restarts, losses, partial)
	}
}

// follow tells what is synced behind a call that returned OK.
func follow(d *disk.Disk, synced map[string]string, c call) {
	switch c.kind {
	case doSync:
		synced[c.name], _ = d.Read(c.name)
	case doRename:
		text := synced[c.name]
		delete(synced, c.name)
		synced[c.text] = text
	case doRemove:
		delete(synced, c.name)
	}
}

// K5: what was synced outlasts whatever comes behind it: the power may go off at any action, and as little be left as can be.
func TestTheoremSynced(t *testing.T) {
	behind := []call{add("a", "x"), add("b", "y"), sync("b"), rename("b", "c"), add("a", "z"), remove("c"), add("b", "w")}
	for n := 1; n <= len(behind)+1; n++ {
		for c := range 4 {
			d := play([]call{add("a", "one"), sync("a"), add("b", "two"), sync("b"), arm(n)})
			for _, b := range behind {
				perform(d, b)
			}
			if d.Off() != (n <= len(behind)) {
				t.Error(n, d.Off())
			}
			d.Restart([]int{c, c, c})
			s, e := d.Read("a")
			if e != api.OK || !strings.HasPrefix(s, "one") || !strings.HasPrefix("onexz", s) {
				t.Error(n, c, s, e)
			}
		}
	}
}

// K5: files are independent of each other: a file is as it would be alone, whatever is done with the others.
func TestTheoremFiles(t *testing.T) {
	random := rand.New(rand.NewSource(4))
	lost := 0
	for range 2000 {
		both, alone := disk.New(), disk.New()
		for range 30 {
			c := randomCall(random)
			if c.kind == doArm || c.kind == doRestart || c.kind == doRename || c.isAction() && c.name == "a" {
				continue
			}
			perform(both, c)
			if random.Intn(2) == 0 {
				mine := []call{add("a", string([]byte{byte(random.Intn(256))})), sync("a"), remove("a"), add("a", "long text")}[random.Intn(4)]
				x, y := perform(both, mine), perform(alone, mine)
				if x != y && x.errno != api.ErrDiskFull {
					t.Fatal(mine, x, y)
				}
				if x.errno == api.ErrDiskFull { // as there are 4 others: the file is not created
					perform(alone, remove("a"))
				}
			}
		}
		choice := random.Intn(12)
		keep := randomKeep(random)
		if at := slices.Index(both.List(), "a"); at >= 0 {
			keep = append(append(slices.Grow(keep, 9), make([]int, 9)...)[:at], choice)
		}
		before, _ := both.Read("a")
		both.Restart(keep)
		alone.Restart([]int{choice})
		x, e := both.Read("a")
		y, f := alone.Read("a")
		if x != y || e != f {
			t.Fatalf("%q %d, %q %d", x, e, y, f)
		}
		if x != before {
			lost++
		}
	}
	if lost < 100 {
		t.Error(lost)
	}
}

// K5, R4: disks are independent of each other.
func TestTheoremDisks(t *testing.T) {
	random := rand.New(rand.NewSource(5))
	for range 300 {
		disks := []*disk.Disk{disk.New(), disk.New(), disk.New()}
		models := []*model{newModel(), newModel(), newModel()}
		var calls []call
		for range 100 {
			i, c := random.Intn(3), randomCall(random)
			calls = append(calls, c)
			if x, y := perform(disks[i], c), models[i].perform(c); x != y {
				t.Fatal(brief(calls), short(x), short(y))
			}
		}
		for i := range disks {
			check(t, disks[i], models[i], calls)
		}
	}
}

// R4: the same calls on another disk answer the same, in whatever order a map is gone through.
func TestRepeated(t *testing.T) {
	calls := []call{add("d", "1234"), add("b", "1234"), add("c", "1234"), add("a", "1234"), {kind: doList}, restart(1, 2, 3, 4)}
	for range 500 {
		d := play(calls)
		if !slices.Equal(d.List(), []string{"a", "b", "c", "d"}) || !reflect.DeepEqual(files(d), map[string]string{"a": "1", "b": "12", "c": "123", "d": "1234"}) {
			t.Fatal(d.List(), files(d))
		}
	}
}

// lent is a text whose memory the caller changes later on.
func lent(s string) (string, []byte) {
	memory := []byte(s)
	return unsafe.String(unsafe.SliceData(memory), len(memory)), memory
}

func spoil(memory ...[]byte) {
	for _, m := range memory {
		for i := range m {
			m[i] = '#'
		}
	}
}

// R3: no argument is kept: not the name of a new file, nor that of one that is there, nor the bytes.
func TestArgumentsNotKept(t *testing.T) {
	d := disk.New()
	for _, c := range []struct{ name, text string }{{"a", "one"}, {"a", "two"}, {"b", "three"}, {"c", ""}, {"c", "four"}} {
		name, m1 := lent(c.name)
		text, m2 := lent(c.text)
		want(t, "Append", d.Append(name, text), api.OK)
		spoil(m1, m2)
	}
	for _, c := range [][2]string{{"a", "e"}, {"b", "c"}, {"e", "e"}} {
		from, m1 := lent(c[0])
		to, m2 := lent(c[1])
		want(t, "Rename", d.Rename(from, to), api.OK)
		spoil(m1, m2)
	}
	name, m := lent("e")
	want(t, "Sync", d.Sync(name), api.OK)
	spoil(m)
	if !slices.Equal(d.List(), []string{"c", "e"}) || !reflect.DeepEqual(files(d), map[string]string{"c": "three", "e": "onetwo"}) {
		t.Error(d.List(), files(d))
	}
	want(t, "Append", d.Append("e", "five"), api.OK)
	keep := []int{2, 1}
	d.Restart(keep)
	keep[0], keep[1] = 0, 0
	contains(t, d, "c", "th")
	contains(t, d, "e", "onetwof")
	want(t, "Append", d.Append("c", "x"), api.OK)
	d.Restart(nil)
	contains(t, d, "c", "th")
}

// R3: keep is left alone, also behind its length.
func TestArgumentsNotChanged(t *testing.T) {
	memory := []int{-3, 1, 7, math.MinInt, 5, -9}
	kept := slices.Clone(memory)
	for n := range len(memory) + 1 {
		d := play([]call{add("d", "1234"), add("b", "1234"), add("c", "1234"), add("a", "1234")})
		if d.Restart(memory[:n]); !slices.Equal(memory, kept) {
			t.Fatal(n, memory)
		}
	}
}

// R3: what is answered is new memory, and changes nothing of what is answered later.
func TestAnswersNew(t *testing.T) {
	d := play([]call{add("b", "text"), sync("b"), add("a", "more")})
	names, again := d.List(), d.List()
	for i := range names {
		if unsafe.StringData(names[i]) == unsafe.StringData(again[i]) {
			t.Error("a name is told twice from the same memory")
		}
	}
	names[0], names[1] = "x", "y"
	for i := range 10 {
		names = append(names, strings.Repeat("z", i))
	}
	if !slices.Equal(again, []string{"a", "b"}) || !slices.Equal(d.List(), []string{"a", "b"}) {
		t.Error(again, d.List())
	}
	first, _ := d.Read("b")
	second, _ := d.Read("b")
	if unsafe.StringData(first) == unsafe.StringData(second) {
		t.Error("a file is read twice from the same memory")
	}
	if perform(d, restart()); first != "text" || second != "text" {
		t.Error(first, second)
	}
	perform(d, add("b", "++"))
	perform(d, restart())
	perform(d, add("b", "--"))
	third, _ := d.Read("b")
	perform(d, restart())
	perform(d, add("b", "**"))
	if first != "text" || third != "text--" {
		t.Error(first, third)
	}
	contains(t, d, "b", "text**")
}

// R3: files share no memory: the bytes of one are not those of another that was renamed, removed or lost.
func TestFilesApart(t *testing.T) {
	d := disk.New()
	text := strings.Repeat("x", 100)
	for _, name := range []string{"a", "b", "c", "d"} {
		want(t, "Append", d.Append(name, text), api.OK)
	}
	d.Restart([]int{50, 60, 70, 80})
	want(t, "Rename", d.Rename("a", "b"), api.OK)
	want(t, "Append", d.Append("a", "new"), api.OK)
	want(t, "Append", d.Append("b", "yy"), api.OK)
	want(t, "Append", d.Append("c", "zz"), api.OK)
	if !reflect.DeepEqual(files(d), map[string]string{"a": "new", "b": text[:50] + "yy", "c": text[:70] + "zz", "d": text[:80]}) {
		t.Error(files(d))
	}
}

// R1: very many choices, and very many calls.
func TestLarge(t *testing.T) {
	d := play(prepared)
	keep := make([]int, 1<<22)
	for i := range keep {
		keep[i] = i + 1
	}
	d.Restart(keep)
	if !reflect.DeepEqual(files(d), map[string]string{"a": "onet", "b": "th"}) {
		t.Error(files(d))
	}
	want(t, "Arm", d.Arm(1<<20), api.OK)
	for range 1<<20 - 1 {
		if e := d.Sync("a"); e != api.OK {
			t.Fatal(e, d.Acts())
		}
	}
	want(t, "armed", d.Sync("a"), api.ErrDiskPower)
	if d.Acts() != 1<<20+4 {
		t.Error(d.Acts())
	}
}
