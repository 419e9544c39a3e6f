package lines_test

import (
	"encoding/binary"
	"fmt"
	"maps"
	"math/rand"
	"regexp"
	"slices"
	"strings"
	"sync"
	"testing"
	"unsafe"

	"billet/api"
	"billet/lines"
	"billet/request"
	"billet/world"
)

// T1 and T2 are the chapter's promises, P1 and P4 those of the document; those of the document's rules are called rules.

// The chapter's words, anew.

// forms is the chapter's table, without what lines do.
func forms() []string {
	return []string{
		"start", "crash", "cell N", "lose N", "tick N", "arm N", "round N", "place", "report N", "deliver N", "drop N", "copy N",
		"submit WORD N N N N WORD", "scale WORD N", "delete WORD", "add WORD N N WORD", "remove WORD", "cordon WORD", "uncordon WORD",
		"status", "running N", "time",
	}
}

var (
	numberForm   = regexp.MustCompile(`\A(0|[1-9][0-9]{0,5})\z`)
	nameForm     = regexp.MustCompile(`\A[a-z0-9]{1,12}\z`)
	labelForm    = regexp.MustCompile(`\A([a-z0-9]{1,12})=[a-z0-9]{1,12}\z`)
	selectorForm = regexp.MustCompile(`\A(!?[a-z0-9]{1,12}|[a-z0-9]{1,12}!?=[a-z0-9]{1,12})\z`)
)

// hasForm reports whether a line, without its line feed, has one of the forms.
func hasForm(text string) bool {
	return slices.ContainsFunc(forms(), func(form string) bool { return isLike(text, form) })
}

// isLike reports whether a line has this form.
func isLike(text, form string) bool {
	words, asked := strings.Split(text, " "), strings.Split(form, " ")
	if len(words) != len(asked) {
		return false
	}
	for i, word := range words {
		switch asked[i] {
		case "N":
			if !numberForm.MatchString(word) {
				return false
			}
		case "WORD":
			if len(word) < 1 || len(word) > 60 {
				return false
			}
		default:
			if word != asked[i] {
				return false
			}
		}
	}
	return true
}

// played is what Run answers.
type played struct {
	transcript string
	errno      api.Errno
	line       int
}

func run(script string) played {
	s, e, n := lines.Run(script)
	return played{s, e, n}
}

// said is what Run has to answer: T1.
func said(script string) played {
	var texts []string
	text := ""
	ended := true
	for _, b := range []byte(script) {
		ended = b == '\n'
		if ended {
			texts = append(texts, text)
			text = ""
		} else {
			text += string([]byte{b})
		}
	}
	if len(texts) > 300 || len(texts) == 300 && !ended {
		return played{errno: 221}
	}
	m := newModel()
	for i, text := range texts {
		if !hasForm(text) || len(text) > 200 {
			return played{errno: 220, line: i + 1}
		}
		m.line(strings.Split(text, " "))
	}
	if !ended || len(texts) == 0 {
		return played{errno: 220, line: len(texts) + 1}
	}
	return played{transcript: m.transcript}
}

// model is a world of package world, and what was told of it.
type model struct {
	w          *world.World
	transcript string
}

func newModel() *model { return &model{w: world.New()} }

func (m *model) tells(format string, args ...any) {
	m.transcript += fmt.Sprintf(format, args...)
}

// line is a row of the table.
func (m *model) line(words []string) {
	n := func(i int) int {
		x := 0
		fmt.Sscan(words[i], &x)
		return x
	}
	switch words[0] {
	case "start":
		m.events(8, 0, 1)
	case "crash":
		m.events(7, 0, 1)
	case "cell":
		m.events(11, n(1), 1)
	case "lose":
		m.events(10, n(1), 1)
	case "tick":
		m.events(1, n(1), 1)
	case "arm":
		m.events(9, n(1), 1)
	case "round":
		m.events(13, 0, min(n(1), 100))
	case "place":
		m.events(2, 0, 1)
	case "report":
		m.events(3, n(1), 1)
	case "deliver":
		m.events(4, n(1), 1)
	case "drop":
		m.events(5, n(1), 1)
	case "copy":
		m.events(6, n(1), 1)
	case "submit":
		selector := strings.TrimSuffix(words[6], "-")
		if words[6] != "-" {
			selector = words[6]
		}
		valid := isName(words[1]) && n(2) <= 16 && n(3) <= 9 && isIn(n(4), 1, 16) && isIn(n(5), 1, 16) && isSelector(selector)
		m.asks(valid, num(1), text(words[1]), num(n(2)), num(n(3)), num(n(4)), num(n(5)), text(selector))
	case "scale":
		m.asks(isName(words[1]) && n(2) <= 16, num(2), text(words[1]), num(n(2)))
	case "delete":
		m.asks(isName(words[1]), num(3), text(words[1]))
	case "add":
		labels := ""
		if words[4] != "-" {
			labels = words[4]
		}
		m.asks(isName(words[1]) && n(2) <= 2 && n(3) <= 4 && isLabels(labels), num(4), text(words[1]), num(n(2)), num(n(3)), text(labels), num(0))
	case "remove":
		m.asks(isName(words[1]), num(5), text(words[1]))
	case "cordon":
		m.asks(isName(words[1]), num(6), text(words[1]))
	case "uncordon":
		m.asks(isName(words[1]), num(7), text(words[1]))
	case "status":
		m.status()
	case "running":
		m.tells("running")
		for _, b := range m.w.Running(n(1), 0) {
			m.tells(" %s@%s*%d", b.Work, b.Node, b.Count)
		}
		m.tells("\n")
	case "time":
		m.tells("time %d %d\n", m.w.Time(), m.w.Under())
	}
}

// events lets an event happen so many times.
func (m *model) events(what, a, many int) {
	for range many {
		m.w.Do(api.Event{What: what, A: a})
	}
	m.tells("ok\n")
}

// asks is an operation, valid or not, with the parts of its request.
func (m *model) asks(valid bool, parts ...string) {
	if !valid {
		m.tells("error 120\n")
		return
	}
	answer := m.w.Do(api.Event{What: 12, Text: strings.Join(parts, "")})
	e, _ := binary.Varint([]byte(answer))
	switch {
	case answer == "":
		m.tells("nothing\n")
	case e == 0:
		m.tells("ok\n")
	default:
		m.tells("error %d\n", e)
	}
}

func (m *model) status() {
	_, reports, ok := request.Read(m.w.Do(api.Event{What: 12, Text: "\x12"}))
	if !ok {
		m.tells("nothing\n")
		return
	}
	m.tells("status")
	for _, r := range reports {
		m.tells(" %d:%d:%d:%d", r.Cell, r.Boot, r.Epoch, r.Version)
	}
	m.tells("\n")
}

func num(n int) string { return string(binary.AppendVarint(nil, int64(n))) }

func text(s string) string { return num(len(s)) + s }

func isIn(n, low, high int) bool { return low <= n && n <= high }

func isName(s string) bool { return nameForm.MatchString(s) }

func isSelector(s string) bool {
	terms := strings.Split(s, ",")
	return s == "" || len(terms) <= 4 && !slices.ContainsFunc(terms, func(t string) bool { return !selectorForm.MatchString(t) })
}

func isLabels(s string) bool {
	last := ""
	for i, item := range strings.Split(s, ",") {
		found := labelForm.FindStringSubmatch(item)
		if s != "" && (i > 3 || found == nil || found[1] <= last) {
			return false
		}
		if s != "" {
			last = found[1]
		}
	}
	return true
}

// brief is the beginning and the end of a text.
func brief(s string) string {
	if len(s) > 2000 {
		return fmt.Sprintf("%q .. %q (%d bytes)", s[:200], s[len(s)-1000:], len(s))
	}
	return fmt.Sprintf("%q", s)
}

// check tells if Run answers something else than the chapter says.
func check(t *testing.T, script string) played {
	t.Helper()
	got, want := run(script), said(script)
	if got != want {
		t.Fatalf("%s: %s, %d, %d; not %s, %d, %d", brief(script), brief(got.transcript), got.errno, got.line, brief(want.transcript), want.errno, want.line)
	}
	return got
}

// plays tells if a script has another transcript: it is given with each line's output behind ' => '.
func plays(t *testing.T, both string) {
	t.Helper()
	script, want := "", ""
	for _, s := range strings.Split(strings.TrimSpace(both), "\n") {
		line, output, found := strings.Cut(strings.TrimSpace(s), " => ")
		if !found {
			t.Fatalf("%q has no output", s)
		}
		script += line + "\n"
		want += output + "\n"
	}
	got := check(t, script)
	if got == (played{transcript: want}) {
		return
	}
	t.Errorf("%d, %d", got.errno, got.line)
	asked, outputs, wanted := strings.Split(script, "\n"), strings.Split(got.transcript, "\n"), strings.Split(want, "\n")
	for i := range min(len(outputs), len(wanted)) {
		if outputs[i] != wanted[i] {
			t.Errorf("line %d, %q: %q; not %q", i+1, asked[i], outputs[i], wanted[i])
		}
	}
}

// isWrong tells if a script has another error.
func isWrong(t *testing.T, script string, e api.Errno, line int) {
	t.Helper()
	if got := check(t, script); got != (played{errno: e, line: line}) {
		t.Errorf("%s: %s, %d, %d; not %d, %d", brief(script), brief(got.transcript), got.errno, got.line, e, line)
	}
}

// The examples.

// T1: the chapter's example.
func TestTheExample(t *testing.T) {
	plays(t, `
		start => ok
		cell 0 => ok
		add n 0 2 - => ok
		submit a 3 0 4 4 - => ok
		round 64 => ok
		running 0 => running a@n*2
		cordon n => ok
		round 9 => ok
		running 0 => running
		scale b 1 => error 122
	`)
}

// T1, P4: the document's example; what runs in a cell that is lost runs out, and is given to the other one.
func TestACellIsLost(t *testing.T) {
	plays(t, `
		start => ok
		cell 0 => ok
		cell 1 => ok
		add m 0 4 - => ok
		add n 1 4 - => ok
		submit a 5 0 4 16 - => ok
		round 64 => ok
		running 0 => running a@m*4
		running 1 => running a@n*1
		lose 0 => ok
		running 0 => running
		round 24 => ok
		running 0 => running
		round 64 => ok
		running 0 => running
		running 1 => running a@n*4
	`)
}

// The rows of the table.

// T1: start and crash; while the placer is down there are no answers, and what is wanted outlasts it.
func TestStart(t *testing.T) {
	plays(t, `
		status => nothing
		add n 0 2 - => nothing
		crash => ok
		status => nothing
		start => ok
		status => status
		add n 0 2 - => ok
		submit a 1 0 1 1 - => ok
		crash => ok
		status => nothing
		add n 0 2 - => nothing
		submit a 1 0 1 1 - => nothing
		scale a 1 => nothing
		delete a => nothing
		remove n => nothing
		cordon n => nothing
		uncordon n => nothing
		start => ok
		status => status
		add n 0 2 - => error 121
		submit a 1 0 1 1 - => error 121
		start => ok
		delete a => ok
		delete a => error 122
		time => time 0 0
	`)
}

// T1: the placer that was started again has another epoch, and knows no cell.
func TestEpochs(t *testing.T) {
	plays(t, `
		start => ok
		start => ok
		start => ok
		cell 2 => ok
		place => ok
		deliver 2 => ok
		report 2 => ok
		status => status
		deliver 2 => ok
		status => status 2:1:3:0
		start => ok
		status => status
	`)
}

// T1: of what was not synced, start keeps nothing.
func TestStartKeepsNothing(t *testing.T) {
	plays(t, `
		start => ok
		add n 0 2 - => ok
		arm 2 => ok
		submit a 1 0 1 1 - => error 100
		submit a 1 0 1 1 - => nothing
		start => ok
		scale a 1 => error 122
		remove n => ok
	`)
}

// T1: arm is the action at which the power goes off, counted from the next one on; 0 is none.
func TestArm(t *testing.T) {
	plays(t, `
		start => ok
		add n 0 2 - => ok
		arm 1 => ok
		time => time 0 0
		cordon n => error 100
		cordon n => nothing
		cordon A => error 120
		status => nothing
		start => ok
		cordon n => ok
		arm 3 => ok
		uncordon n => ok
		cordon n => error 100
		status => nothing
		start => ok
		arm 1 => ok
		arm 0 => ok
		cordon n => ok
		arm 1 => ok
		arm 2 => ok
		status => status
		arm 999999 => ok
		cordon n => ok
		arm 1 => ok
		start => ok
		cordon n => ok
		arm 1 => ok
		remove m => error 122
		place => ok
		remove n => error 100
		place => ok
		time => time 0 3
	`)
}

// T1: cells start, with greater boots, report, and are lost; those that don't exist do nothing.
func TestCells(t *testing.T) {
	plays(t, `
		report 0 => ok
		lose 0 => ok
		time => time 0 0
		cell 0 => ok
		cell 1 => ok
		cell 2 => ok
		cell 3 => ok
		cell 999999 => ok
		report 3 => ok
		report 999999 => ok
		time => time 0 0
		report 1 => ok
		time => time 0 1
		start => ok
		deliver 0 => ok
		status => status 1:1:0:0
		lose 1 => ok
		report 1 => ok
		time => time 0 0
		cell 1 => ok
		cell 1 => ok
		cell 2 => ok
		lose 3 => ok
		lose 999999 => ok
		report 1 => ok
		report 2 => ok
		report 0 => ok
		time => time 0 3
		deliver 2 => ok
		status => status 0:1:0:0 1:1:0:0
		deliver 1 => ok
		status => status 0:1:0:0 1:1:0:0 2:2:0:0
		deliver 0 => ok
		status => status 0:1:0:0 1:3:0:0 2:2:0:0
	`)
}

// T1: ticks, of which one line lets 100 go by at most.
func TestTicks(t *testing.T) {
	plays(t, `
		time => time 0 0
		tick 0 => ok
		time => time 0 0
		tick 1 => ok
		time => time 1 0
		tick 99 => ok
		time => time 100 0
		tick 100 => ok
		time => time 200 0
		tick 101 => ok
		time => time 300 0
		tick 999999 => ok
		time => time 400 0
	`)
}

// T1: rounds, of which one line lets 100 happen at most; in each one the messages come, the cells report, and the placer steps.
func TestRounds(t *testing.T) {
	plays(t, `
		round 0 => ok
		time => time 0 0
		round 1 => ok
		time => time 1 0
		round 99 => ok
		time => time 100 0
		round 100 => ok
		time => time 200 0
		round 101 => ok
		time => time 300 0
		round 999999 => ok
		time => time 400 0
		cell 0 => ok
		cell 2 => ok
		round 1 => ok
		time => time 401 2
		start => ok
		status => status
		round 1 => ok
		time => time 402 5
		status => status 0:1:0:0 2:1:0:0
		round 1 => ok
		time => time 403 5
		status => status 0:1:0:0 2:1:0:0
		round 1 => ok
		time => time 404 5
		status => status 0:1:1:0 2:1:1:0
		round 2 => ok
		status => status 0:1:1:1 2:1:1:1
		time => time 406 3
	`)
}

// T1: messages come, are lost, and are doubled, each by its number.
func TestMessages(t *testing.T) {
	plays(t, `
		place => ok
		deliver 0 => ok
		drop 0 => ok
		copy 0 => ok
		time => time 0 0
		start => ok
		cell 0 => ok
		cell 1 => ok
		cell 2 => ok
		place => ok
		time => time 0 3
		deliver 3 => ok
		drop 3 => ok
		copy 3 => ok
		deliver 999999 => ok
		time => time 0 3
		deliver 1 => ok
		time => time 0 2
		drop 1 => ok
		time => time 0 1
		report 1 => ok
		report 2 => ok
		copy 2 => ok
		time => time 0 4
		deliver 3 => ok
		status => status 2:1:0:0
		copy 1 => ok
		deliver 3 => ok
		status => status 1:1:1:0 2:1:0:0
		time => time 0 3
		drop 0 => ok
		drop 0 => ok
		time => time 0 1
		deliver 0 => ok
		report 0 => ok
		deliver 0 => ok
		status => status 0:1:0:0 1:1:1:0 2:1:0:0
	`)
	// There are 64 messages at most.
	script, want := "start\n", "ok\n"
	for i := range 30 {
		script += "place\ntime\n"
		want += fmt.Sprintf("ok\ntime 0 %d\n", min(64, 3*(i+1)))
	}
	script += "copy 63\ntime\ndrop 63\ntime\ncopy 62\ntime\ndeliver 63\ndeliver 63\ntime\n"
	want += "ok\ntime 0 64\nok\ntime 0 63\nok\ntime 0 64\nok\nok\ntime 0 63\n"
	if got := check(t, script); got != (played{transcript: want}) {
		t.Error(got)
	}
}

// T1: each part of a workload is what its place in the line says.
func TestSubmit(t *testing.T) {
	const begin = "start\ncell 0\ncell 1\n"
	for _, c := range []struct{ script, first, second string }{
		{"add n 0 4 -\nsubmit a 3 9 4 16 -\n", "a@n*3", ""},
		{"add n 0 4 -\nsubmit a 0 9 4 16 -\n", "", ""},
		{"add n 0 4 -\nsubmit a 16 1 16 16 -\n", "a@n*4", ""},
		{"add n 0 4 -\nsubmit a 16 1 3 16 -\n", "a@n*3", ""},
		{"add n 0 4 -\nsubmit a 16 1 16 2 -\n", "a@n*2", ""},
		{"add n 0 4 -\nadd o 0 4 -\nsubmit a 16 1 3 5 -\n", "a@n*3 a@o*2", ""},
		{"add n 0 4 -\nadd o 1 4 -\nsubmit a 16 1 4 3 -\n", "a@n*3", "a@o*3"},
		{"add n 0 3 -\nsubmit a 2 4 4 4 -\nsubmit b 2 5 4 4 -\n", "a@n*1 b@n*2", ""},
		{"add n 0 3 -\nsubmit a 2 5 4 4 -\nsubmit b 2 4 4 4 -\n", "a@n*2 b@n*1", ""},
		{"add n 0 4 gpu=x\nadd o 1 4 -\nsubmit a 8 0 4 4 gpu\nsubmit b 8 0 1 4 !gpu\n", "a@n*4", "b@o*1"},
		{"add n 0 4 gpu=x\nadd o 1 4 -\nsubmit a 8 0 4 4 gpu=y\nsubmit b 8 0 1 4 gpu!=x,!cpu\n", "", "b@o*1"},
		{"add n 0 4 cpu=y,gpu=x\nadd o 1 4 cpu=y\nsubmit a 8 0 4 4 gpu=x,cpu=y\nsubmit b 8 0 1 4 cpu\n", "a@n*4", "b@o*1"},
	} {
		script := begin + c.script + "round 64\nrunning 0\nrunning 1\n"
		want := strings.Repeat("ok\n", strings.Count(script, "\n")-2) + strings.TrimSpace("running "+c.first) + "\n" + strings.TrimSpace("running "+c.second) + "\n"
		if got := check(t, script); got != (played{transcript: want}) {
			t.Errorf("%q: %q, %d, %d; not %q", c.script, got.transcript, got.errno, got.line, want)
		}
	}
}

// T1: what is not valid is error 120, whether or not the placer is up; the limits are those of chapter 8, each at its place.
func TestNotValid(t *testing.T) {
	t.Parallel()
	wrong := []string{
		"submit a 17 9 16 16 -", "submit a 16 10 16 16 -", "submit a 16 9 0 16 -", "submit a 16 9 17 16 -", "submit a 16 9 16 0 -", "submit a 16 9 16 17 -",
		"submit - 1 1 1 1 -", "submit A 1 1 1 1 -", "submit aaaaaaaaaaaaa 1 1 1 1 -", "submit a=b 1 1 1 1 -",
		"submit a 1 1 1 1 --", "submit a 1 1 1 1 !,", "submit a 1 1 1 1 ,", "submit a 1 1 1 1 !", "submit a 1 1 1 1 a,b,c,d,e", "submit a 1 1 1 1 aaaaaaaaaaaaa", "submit a 1 1 1 1 -a",
		"submit a 999999 1 1 1 -", "submit a 1 999999 1 1 -", "submit a 1 1 999999 1 -", "submit a 1 1 1 999999 -",
		"scale a 17", "scale a 999999", "scale A 1", "scale - 1", "scale aaaaaaaaaaaaa 1",
		"delete A", "delete -", "delete aaaaaaaaaaaaa", "delete \x00", "delete \xff", "delete a\r", "delete \t",
		"add n 3 4 -", "add n 2 5 -", "add n 999999 4 -", "add n 2 999999 -", "add - 2 4 -", "add N 2 4 -", "add nnnnnnnnnnnnn 2 4 -",
		"add n 2 4 gpu", "add n 2 4 --", "add n 2 4 b=x,a=x", "add n 2 4 a=x,a=x", "add n 2 4 a=x,b=x,c=x,d=x,e=x", "add n 2 4 a=", "add n 2 4 !a", "add n 2 4 a!=b",
		"remove N", "remove -", "cordon N", "cordon -", "uncordon N", "uncordon -", "remove nnnnnnnnnnnnn", "cordon nnnnnnnnnnnnn", "uncordon nnnnnnnnnnnnn",
	}
	for _, s := range wrong {
		script := s + "\nstart\n" + s + "\nadd n 0 4 -\nsubmit a 1 1 1 1 -\n" + s + "\ncrash\n" + s + "\n"
		if got := check(t, script); got != (played{transcript: "error 120\nok\nerror 120\nok\nok\nerror 120\nok\nerror 120\n"}) {
			t.Errorf("%q: %v", s, got)
		}
	}
	right := []string{
		"submit a 16 9 16 16 -", "submit a 0 0 1 1 -", "submit aaaaaaaaaaaa 1 1 1 1 a,!b,c=d,e!=f", "submit 0 1 1 1 1 b,a,b,a",
		"add n 2 4 -", "add n 0 0 -", "add 012345678901 1 1 a=b,c=d,e=f,g=h",
	}
	for _, s := range right {
		if got := check(t, s+"\nstart\n"+s+"\n"+s+"\n"); got != (played{transcript: "nothing\nok\nok\nerror 121\n"}) {
			t.Errorf("%q: %v", s, got)
		}
	}
}

// T1: the answers to operations, with the errors of chapter 12.
func TestAnswers(t *testing.T) {
	plays(t, `
		start => ok
		scale a 16 => error 122
		delete a => error 122
		remove a => error 122
		cordon a => error 122
		uncordon a => error 122
		submit a 1 0 1 1 - => ok
		submit a 2 0 2 2 - => error 121
		add a 0 1 - => ok
		add a 1 2 b=c => error 121
		scale a 17 => error 120
		scale a 16 => ok
		scale a 0 => ok
		cordon a => ok
		cordon a => ok
		uncordon a => ok
		uncordon a => ok
		delete a => ok
		delete a => error 122
		cordon a => ok
		remove a => ok
		remove a => error 122
		submit b 1 0 1 1 - => ok
		submit c 1 0 1 1 - => ok
		submit d 1 0 1 1 - => ok
		submit e 1 0 1 1 - => ok
		submit f 1 0 1 1 - => ok
		submit g 1 0 1 1 - => ok
		submit h 1 0 1 1 - => ok
		submit i 1 0 1 1 - => ok
		submit j 1 0 1 1 - => error 123
		submit b 1 0 1 1 - => error 121
		submit J 1 0 1 1 - => error 120
		add b 0 1 - => ok
		add c 0 1 - => ok
		add d 0 1 - => ok
		add e 0 1 - => ok
		add f 0 1 - => ok
		add g 0 1 - => ok
		add h 0 1 - => ok
		add i 0 1 - => ok
		add j 0 1 - => error 123
		add i 0 1 - => error 121
		add J 0 1 - => error 120
	`)
}

// T1: what scale, delete, remove, cordon and uncordon do shows in what runs.
func TestWhatRuns(t *testing.T) {
	plays(t, `
		start => ok
		cell 0 => ok
		cell 1 => ok
		add n 0 4 - => ok
		add m 0 1 - => ok
		add o 1 2 - => ok
		submit b 4 0 2 4 - => ok
		submit a 1 0 2 4 - => ok
		round 64 => ok
		running 0 => running a@m*1 b@n*2
		running 1 => running b@o*2
		running 2 => running
		running 3 => running
		running 999999 => running
		scale b 1 => ok
		round 64 => ok
		running 0 => running a@m*1 b@n*1
		running 1 => running
		cordon m => ok
		round 64 => ok
		running 0 => running a@n*1 b@n*1
		uncordon m => ok
		cordon n => ok
		round 64 => ok
		running 0 => running a@m*1
		running 1 => running b@o*1
		remove o => ok
		uncordon n => ok
		delete b => ok
		round 64 => ok
		running 0 => running a@m*1
		running 1 => running
		lose 0 => ok
		running 0 => running
	`)
}

// T1: running is asked by a clock without skew: the last grant that came was given at 60, so that it holds until 80.
func TestLeasesEnd(t *testing.T) {
	plays(t, `
		start => ok
		cell 0 => ok
		add n 0 2 - => ok
		submit a 3 0 4 4 - => ok
		round 64 => ok
		time => time 64 4
		running 0 => running a@n*2
		tick 15 => ok
		running 0 => running a@n*2
		tick 1 => ok
		running 0 => running
		deliver 1 => ok
		running 0 => running a@n*2
		tick 3 => ok
		running 0 => running a@n*2
		tick 1 => ok
		running 0 => running
	`)
}

// T1: status tells of each report its Cell, Boot, Epoch and Version, in the order of the cells.
func TestStatus(t *testing.T) {
	plays(t, `
		start => ok
		start => ok
		cell 2 => ok
		cell 2 => ok
		cell 2 => ok
		cell 0 => ok
		cell 0 => ok
		cell 0 => ok
		cell 0 => ok
		status => status
		round 2 => ok
		status => status 0:4:0:0 2:3:0:0
		round 1 => ok
		status => status 0:4:2:0 2:3:2:0
		round 2 => ok
		status => status 0:4:2:1 2:3:2:1
		round 64 => ok
		status => status 0:4:2:17 2:3:2:17
		cell 1 => ok
		round 4 => ok
		status => status 0:4:2:18 1:1:2:1 2:3:2:18
		crash => ok
		status => nothing
	`)
}

// What is no script.

// examples are lines, one for each form.
func examples() []string {
	var list []string
	for _, form := range forms() {
		list = append(list, strings.ReplaceAll(strings.ReplaceAll(form, "WORD", "a"), "N", "1"))
	}
	return list
}

// T1: each line of the table is one, and is nothing with a word too many or too few, or with other spaces.
func TestForms(t *testing.T) {
	t.Parallel()
	for _, s := range examples() {
		if got := check(t, s+"\n"); got.errno != 0 || strings.Count(got.transcript, "\n") != 1 {
			t.Errorf("%q: %v", s, got)
		}
		words := strings.Split(s, " ")
		for i := range words {
			for _, more := range []string{"", "1", "a", "-", "N", "WORD", words[0], words[i]} {
				isWrong(t, strings.Join(slices.Insert(slices.Clone(words), i, more), " ")+"\n", 220, 1)
				isWrong(t, s+" "+more+"\n", 220, 1)
			}
			if fewer := strings.Join(slices.Delete(slices.Clone(words), i, i+1), " "); !hasForm(fewer) {
				isWrong(t, fewer+"\n", 220, 1)
			}
		}
		for _, other := range []string{strings.ToUpper(s), strings.ToUpper(s[:1]) + s[1:], s[:1] + " " + s[1:], s + "\r", s + "\t", "\ufeff" + s, "#" + s, s + "#", s + "  ", "  " + s, strings.ReplaceAll(s, " ", "\t"), strings.ReplaceAll(s, " ", "\u00a0"), strings.ReplaceAll(s, " ", ",")} {
			if !hasForm(other) {
				isWrong(t, other+"\n", 220, 1)
			}
		}
		isWrong(t, s, 220, 1)
	}
	for _, s := range []string{"", " ", "  ", "\r", "\x00", "ok", "N", "WORD", "word", "ticks 1", "stat", "star", "starts", "nothing", "help", "1", "-", "epoch", "ask", "ask a", "events 1", "list", "Start", "submit", "run 0"} {
		isWrong(t, s+"\n", 220, 1)
		isWrong(t, s+"\n\n\n", 220, 1)
	}
}

// replaced is a form with examples in all its places but one, which has a word of its own.
func replaced(form string, place int, word string) string {
	words := strings.Split(strings.ReplaceAll(strings.ReplaceAll(form, "WORD", "a"), "N", "1"), " ")
	words[place] = word
	return strings.Join(words, " ") + "\n"
}

// T1: a number has 1 to 6 digits without leading zeros, a word 1 to 60 bytes.
func TestPlaces(t *testing.T) {
	t.Parallel()
	numbers := []string{"0", "1", "2", "9", "10", "64", "99", "100", "101", "1000", "99999", "100000", "123456", "999999"}
	noNumbers := []string{
		"", "00", "01", "007", "000000", "0000000", "0999999", "1000000", "9999999", "12345678901234567890", "18446744073709551616", "9223372036854775807", "4294967296", "-", "-0", "-1", "+0", "+1", "1.", "1.0", "1e3", "0x1", "0b1", "0o7", "1_0", "1,0",
		"a", "N", "1a", "a1", "1\r", "1\t", "\t1", "1\x00", "\x001", "\u0661", "\uff11", "²", "½", "1-", "--1", strings.Repeat("1", 60), strings.Repeat("0", 60),
	}
	words := []string{
		"a", "-", "--", "0", "A", "N", "WORD", "start", "a=b", "a,b", "!a", "\x00", "\r", "\t", "\v", "\xff", "\xc3", "é", "\u00a0", "\u2028", "'", "\"", "\\", "\\n", "%s", "#", "*", "=>",
		strings.Repeat("x", 59), strings.Repeat("x", 60), strings.Repeat("é", 30), strings.Repeat("\xff", 60), strings.Repeat("\U0001f600", 15), strings.Repeat("\x00", 60),
	}
	noWords := []string{"", strings.Repeat("x", 61), strings.Repeat("x", 62), strings.Repeat("x", 100), strings.Repeat("é", 30) + "x", strings.Repeat("é", 31), strings.Repeat("\xff", 61), strings.Repeat("\U0001f600", 16), strings.Repeat("x", 200), strings.Repeat("x", 1000)}
	places := 0
	for _, form := range forms() {
		for i, asked := range strings.Split(form, " ") {
			good, bad := words, noWords
			switch asked {
			case "N":
				good, bad = numbers, noNumbers
			case "WORD":
			default:
				continue
			}
			places++
			for _, s := range good {
				if got := check(t, replaced(form, i, s)); got.errno != 0 {
					t.Errorf("%q: %v", replaced(form, i, s), got)
				}
			}
			for _, s := range bad {
				isWrong(t, replaced(form, i, s), 220, 1)
			}
		}
	}
	if places != 10+6+2+1+4+3 {
		t.Error(places)
	}
}

// T1: the longest lines of the table, and lines around 200 bytes, none of which has a form.
func TestLongLines(t *testing.T) {
	long := strings.Repeat("x", 60)
	longest := "submit " + long + " 999999 999999 999999 999999 " + long
	if got := check(t, longest+"\n"); len(longest) != 156 || got.transcript != "error 120\n" {
		t.Error(len(longest), got)
	}
	for n := 150; n < 260; n++ {
		for _, s := range []string{strings.Repeat("x", n), strings.Repeat(" ", n), "time" + strings.Repeat(" ", n-4), strings.Repeat("0", n-5) + " time", "delete " + strings.Repeat("x", n-7), "tick " + strings.Repeat("1", n-5), longest[:95] + strings.Repeat("x", n-95)} {
			if !hasForm(s) {
				isWrong(t, "time\n"+s+"\ntime\n", 220, 2)
			}
		}
	}
}

// T1: the first line that is not valid is told, counted from 1; what happened ahead of it is not.
func TestWhichLine(t *testing.T) {
	for _, bad := range []string{"", " ", "nonsense", "tick", "tick 01", "time ", "delete " + strings.Repeat("x", 61), strings.Repeat("x", 201)} {
		for _, many := range []int{1, 2, 3, 10, 255, 256, 257, 299, 300} {
			for _, at := range []int{1, 2, many / 2, many - 1, many} {
				if at < 1 || at > many {
					continue
				}
				list := slices.Repeat([]string{"time"}, many)
				list[at-1] = bad
				isWrong(t, strings.Join(list, "\n")+"\n", 220, at)
				list[many-1] = bad
				isWrong(t, strings.Join(list, "\n")+"\n", 220, at)
				list[many-1], list[at-1] = "time", bad
				if at < many {
					// The last line is not terminated.
					isWrong(t, strings.Join(list, "\n"), 220, at)
				}
			}
		}
	}
	for _, many := range []int{0, 1, 2, 100, 298, 299} {
		ahead := strings.Repeat("start\n", many)
		for _, rest := range []string{"time", "start", "x", " ", "\r", "\x00", "tick 1", "tick", strings.Repeat("x", 201)} {
			isWrong(t, ahead+rest, 220, many+1)
		}
		isWrong(t, ahead+"\n", 220, many+1)
		if many < 299 {
			isWrong(t, ahead+"\n\n", 220, many+1)
		}
	}
	isWrong(t, "", 220, 1)
}

// T1: more than 300 lines are too many, whatever is in them; bytes behind the last line feed count as a line.
func TestTooMany(t *testing.T) {
	for _, s := range []string{"time\n", "start\n", "\n", "x\n", " \n", "tick 1\n", "tick\n", strings.Repeat("x", 300) + "\n"} {
		for _, many := range []int{301, 302, 303, 304, 600, 1000} {
			isWrong(t, strings.Repeat(s, many), 221, 0)
			isWrong(t, strings.Repeat(s, many)+"time", 221, 0)
		}
		for _, rest := range []string{"time", "x", " ", "\x00", "\r", "tick 1", strings.Repeat("x", 300)} {
			isWrong(t, strings.Repeat(s, 300)+rest, 221, 0)
		}
		isWrong(t, strings.Repeat(s, 299)+"\ntime\n", 221, 0)
	}
	for _, many := range []int{1, 2, 299, 300} {
		if got := check(t, strings.Repeat("time\n", many)); got != (played{transcript: strings.Repeat("time 0 0\n", many)}) {
			t.Error(many, got)
		}
	}
	isWrong(t, strings.Repeat("\n", 300), 220, 1)
	isWrong(t, strings.Repeat("time\n", 299)+"time", 220, 300)
	isWrong(t, strings.Repeat("time\n", 299)+"\n", 220, 300)
}

// T1: lines of which a byte is another one, is missing, or is there twice.
func TestSpoiledLines(t *testing.T) {
	t.Parallel()
	right := 0
	for _, s := range append(examples(), "submit web 3 9 4 16 gpu=x,!cpu", "add node1 2 4 disk=ssd,zone=a", "scale web 16", "round 64", "tick 999999") {
		s += "\n"
		for i := range len(s) {
			for _, b := range []string{"", "\n", " ", "\r", "\t", "\x00", "\xff", "0", "1", "9", "a", "x", "-", "_", "+", "A", s[i:i+1] + s[i:i+1], s[i:i+1] + " ", s[i:i+1] + "\n", "0" + s[i:i+1]} {
				if got := check(t, s[:i]+b+s[i+1:]+"time\n"); got.errno == 0 {
					right++
				}
			}
		}
	}
	if right < 500 {
		t.Error(right)
	}
}

// Scripts of all kinds.

// busy is a script in which everybody is up, and something runs; which leaves messages in transit.
const busy = "start\ncell 0\ncell 1\nadd m 0 2 -\nadd n 1 4 gpu=x\nsubmit a 3 1 2 4 -\nsubmit b 2 5 4 4 gpu\nround 40\n"

// alphabet is one line of each kind, and some more.
func alphabet() []string {
	return []string{
		"start", "crash", "cell 0", "cell 2", "lose 1", "tick 30", "arm 1", "arm 2", "round 2", "place", "report 1", "deliver 1", "drop 0", "copy 2",
		"submit c 9 3 1 9 -", "scale a 1", "delete b", "add o 2 1 -", "remove n", "cordon n", "uncordon n", "status", "running 1", "time", "scale A 1",
	}
}

// looks are the lines that tell everything.
const looks = "status\nrunning 0\nrunning 1\nrunning 2\ntime\n"

// T1: all short lists of lines, on a new world and on a busy one.
func TestAllShortScripts(t *testing.T) {
	t.Parallel()
	list := alphabet()
	for _, a := range list {
		for _, b := range list {
			check(t, busy+a+"\n"+b+"\n"+looks+"round 9\n"+looks)
			for _, c := range list {
				check(t, a+"\n"+b+"\n"+c+"\n"+looks)
			}
		}
	}
}

func pick(random *rand.Rand, list ...string) string { return list[random.Intn(len(list))] }

func randomName(random *rand.Rand) string {
	if random.Intn(30) == 0 {
		return pick(random, "A", "-", "aaaaaaaaaaaaa", "a-b", "\xff")
	}
	return pick(random, "a", "b", "c", "d", "web", "m", "n", "o", "p", "q")
}

func randomNumber(random *rand.Rand, most int) int {
	if random.Intn(20) == 0 {
		return []int{most, most + 1, 0, 99, 100, 101, 999998}[random.Intn(7)]
	}
	return random.Intn(most + 1)
}

// randomOperation is a line of one of the seven.
func randomOperation(random *rand.Rand) string {
	id := randomName(random)
	switch random.Intn(10) {
	case 0, 1, 2:
		selector := pick(random, "-", "-", "-", "gpu", "!gpu", "gpu=x", "gpu!=x,zone=a", "zone", "x,", "--")
		return fmt.Sprintf("submit %s %d %d %d %d %s", id, randomNumber(random, 16), randomNumber(random, 9), 1+randomNumber(random, 5), 1+randomNumber(random, 10), selector)
	case 3, 4, 5:
		labels := pick(random, "-", "-", "gpu=x", "gpu=x,zone=a", "zone=b", "zone=a,gpu=x", "gpu")
		return fmt.Sprintf("add %s %d %d %s", id, randomNumber(random, 2), randomNumber(random, 4), labels)
	case 6:
		return fmt.Sprintf("scale %s %d", id, randomNumber(random, 16))
	default:
		return pick(random, "delete ", "remove ", "cordon ", "uncordon ", "uncordon ") + id
	}
}

// randomLook is a line that only tells something.
func randomLook(random *rand.Rand) string {
	return pick(random, "status", "time", "running 0", "running 1", "running 2", "running 3")
}

// randomLine is any line.
func randomLine(random *rand.Rand) string {
	switch random.Intn(10) {
	case 0, 1, 2:
		return randomOperation(random)
	case 3:
		return randomLook(random)
	case 4:
		return fmt.Sprintf("round %d", random.Intn(12))
	case 5:
		return pick(random, "cell 0", "cell 1", "cell 2", "cell 3", "lose 0", "lose 1", "lose 2", "lose 7", "start", "start", "crash", "arm 0", "arm 1", "arm 2", "arm 3", "arm 5", "arm 9")
	case 6:
		return pick(random, "tick 1", "tick 3", "tick 9", "tick 30", "tick 200", "tick 0")
	case 7:
		return pick(random, "place", "report 0", "report 1", "report 2", "report 3")
	default:
		return pick(random, "deliver ", "deliver ", "deliver ", "deliver ", "drop ", "copy ") + fmt.Sprint(randomNumber(random, 5))
	}
}

// randomScript is up to so many lines.
func randomScript(random *rand.Rand, most int) []string {
	var list []string
	if random.Intn(4) > 0 {
		list = strings.Split(strings.TrimSpace(busy), "\n")
	}
	for range 1 + random.Intn(most) {
		list = append(list, randomLine(random))
	}
	return list
}

func joined(list []string) string {
	s := ""
	for _, line := range list {
		s += line + "\n"
	}
	return s
}

// T1: random scripts.
func TestRandom(t *testing.T) {
	t.Parallel()
	random := rand.New(rand.NewSource(1))
	outputs := map[string]int{}
	for range 400 {
		got := check(t, joined(randomScript(random, 100)))
		for _, s := range strings.Split(got.transcript, "\n") {
			outputs[strings.Join(strings.Fields(s)[:min(1, len(strings.Fields(s)))], "")]++
			if strings.HasPrefix(s, "error ") {
				outputs[s]++
			}
		}
	}
	for _, s := range []string{"ok", "nothing", "status", "running", "time", "error 100", "error 120", "error 121", "error 122"} {
		if outputs[s] < 5 {
			t.Errorf("%q: %d", s, outputs[s])
		}
	}
}

// T1: random scripts of which a line, or the end, may be wrong.
func TestRandomErrors(t *testing.T) {
	t.Parallel()
	random := rand.New(rand.NewSource(2))
	count := map[api.Errno]int{}
	for range 3000 {
		list := slices.Repeat([]string{"time"}, []int{1, 3, 20, 290, 299, 300, 301, 310}[random.Intn(8)])
		for range random.Intn(3) {
			list[random.Intn(len(list))] = pick(random, "", "tick", "time time", "tick 1 ", "x", "tick 00", "deletea", "delete a", "tick 7", "status", strings.Repeat("y", 250))
		}
		script := joined(list)
		if random.Intn(3) == 0 {
			script = script[:len(script)-random.Intn(6)%(len(script)+1)]
		}
		count[check(t, script).errno]++
	}
	for e, least := range map[api.Errno]int{0: 200, 220: 200, 221: 200} {
		if count[e] < least {
			t.Errorf("%d: %d", e, count[e])
		}
	}
}

// T1: random bytes, most of which are no script.
func TestRandomBytes(t *testing.T) {
	t.Parallel()
	random := rand.New(rand.NewSource(3))
	pieces := []string{"time", "tick", "tick 1", "status", "\n", "\n", "\n", " ", " ", "1", "0", "a", "-", "delete", "\r", "\x00", "\xff", "é", "start\n", "cell 0\n", "scale a 1\n", "add n 0 1 -\n", "submit a 1 1 1 1 -\n"}
	for range 60000 {
		script := ""
		for range random.Intn(8) {
			script += pieces[random.Intn(len(pieces))]
		}
		check(t, script)
	}
}

// The theorem.

// outputs are the lines of a transcript.
func outputs(t *testing.T, script string) []string {
	t.Helper()
	got := run(script)
	if got.errno != 0 || got.line != 0 {
		t.Fatalf("%s: %d, %d", brief(script), got.errno, got.line)
	}
	list := strings.SplitAfter(got.transcript, "\n")
	if last := len(list) - 1; list[last] != "" || strings.Count(script, "\n") != last {
		t.Fatalf("%s: %s", brief(script), brief(got.transcript))
	}
	return list[:len(list)-1]
}

// T2: the transcript of the first lines of a script consists of the first lines of its transcript.
func TestFirstLines(t *testing.T) {
	t.Parallel()
	random := rand.New(rand.NewSource(4))
	for range 40 {
		list := randomScript(random, 40)
		all := outputs(t, joined(list))
		for many := 1; many <= len(list); many++ {
			if got := outputs(t, joined(list[:many])); !slices.Equal(got, all[:many]) {
				t.Fatalf("%q: %q; not %q", list[:many], got, all[:many])
			}
		}
	}
}

func isLook(line string) bool {
	return line == "status" || line == "time" || strings.HasPrefix(line, "running ")
}

// T2: lines that only return information can be removed, some of them or all, and added, without changing the output of the others.
func TestLooksChangeNothing(t *testing.T) {
	t.Parallel()
	random := rand.New(rand.NewSource(5))
	removed := 0
	for range 300 {
		var list, rest []string
		for _, line := range randomScript(random, 60) {
			list = append(list, line)
			for range random.Intn(3) {
				list = append(list, randomLook(random))
			}
		}
		all := outputs(t, joined(list))
		often := random.Intn(3)
		var want []string
		for i, line := range list {
			if isLook(line) && (often == 0 || random.Intn(3) < often) {
				removed++
				continue
			}
			rest = append(rest, line)
			want = append(want, all[i])
		}
		if len(rest) == 0 {
			continue
		}
		if got := outputs(t, joined(rest)); !slices.Equal(got, want) {
			t.Fatalf("%q: %q; not %q", rest, got, want)
		}
	}
	if removed < 2000 {
		t.Error(removed)
	}
}

// T2: a look changes nothing at any place of a busy script, where the power may be about to go off.
func TestLooksAnywhere(t *testing.T) {
	t.Parallel()
	list := strings.Split(strings.TrimSpace(busy+"arm 3\nscale a 2\nscale b 1\nscale b 2\nstart\nround 3\ntick 25\nround 30\nrunning 0\nrunning 1\nstatus\ntime\ncrash\nround 2\nscale a 1\nstart\nscale a 1"), "\n")
	all := outputs(t, joined(list))
	for i := range len(list) + 1 {
		for _, look := range []string{"status", "time", "running 0", "running 1", "running 9"} {
			for _, many := range []int{1, 20} {
				with := slices.Insert(slices.Clone(list), i, slices.Repeat([]string{look}, many)...)
				got := outputs(t, joined(with))
				if got = slices.Delete(got, i, i+many); !slices.Equal(got, all) {
					t.Fatalf("%q at %d: %q; not %q", look, i, got, all)
				}
			}
		}
	}
}

// The document's promises, as scripts show them.

// plain is what is wanted, and which nodes there are.
type plain struct{ works, nodes map[string]bool }

// does performs a line that is an operation, and returns its output.
func (p plain) does(line string) string {
	words := strings.Split(line, " ")
	of := p.works
	if words[0] == "add" || words[0] == "remove" || strings.HasSuffix(words[0], "cordon") {
		of = p.nodes
	}
	id := words[1]
	m := newModel()
	m.line(words)
	switch makes := words[0] == "submit" || words[0] == "add"; {
	case m.transcript == "error 120\n":
		return "error 120\n"
	case makes && of[id]:
		return "error 121\n"
	case !makes && !of[id]:
		return "error 122\n"
	case makes && len(of) == 8:
		return "error 123\n"
	case makes:
		of[id] = true
	case words[0] == "delete" || words[0] == "remove":
		delete(of, id)
	}
	return "ok\n"
}

// P1, P2: every answer is what plain maps would answer; while the placer is down there are none, and an operation that the power interrupts is not there if nothing is kept.
func TestPlainMaps(t *testing.T) {
	t.Parallel()
	random := rand.New(rand.NewSource(6))
	outcomes := map[string]int{}
	for range 150 {
		p := plain{map[string]bool{}, map[string]bool{}}
		up, armed := false, false
		list := randomScript(random, 60)
		for range 100 {
			list = append(list, randomOperation(random))
		}
		for i, got := range outputs(t, joined(list)) {
			line := list[i]
			outcomes[got]++
			switch verb, _, _ := strings.Cut(line, " "); {
			case verb == "start":
				up, armed = true, false
			case verb == "crash":
				up = false
			case verb == "arm":
				armed = line != "arm 0"
			case !strings.Contains(" submit scale delete add remove cordon uncordon ", " "+verb+" "):
			case up && armed && got == "error 100\n":
				up = false
			case up && armed && got == "nothing\n":
				// A checkpoint failed, behind an operation that lasts.
				up = false
			default:
				before := plain{maps.Clone(p.works), maps.Clone(p.nodes)}
				want := p.does(line)
				if !up && want != "error 120\n" {
					p, want = before, "nothing\n"
				}
				if got != want {
					t.Fatalf("%q, line %d: %q; not %q", list[:i+1], i+1, got, want)
				}
			}
		}
	}
	for _, s := range []string{"ok\n", "nothing\n", "error 100\n", "error 120\n", "error 121\n", "error 122\n", "error 123\n"} {
		if outcomes[s] < 10 {
			t.Errorf("%q: %d", s, outcomes[s])
		}
	}
}

// The rules.

// Rule R1: very long scripts, of very long lines or of very many.
func TestHugeScripts(t *testing.T) {
	t.Parallel()
	const many = 1 << 24
	long := strings.Repeat("a", many)
	for _, c := range []struct {
		script string
		want   played
	}{
		{long, played{errno: 220, line: 1}},
		{long + "\n", played{errno: 220, line: 1}},
		{"time\n" + long + "\n", played{errno: 220, line: 2}},
		{"delete " + long + "\n", played{errno: 220, line: 1}},
		{"tick " + strings.Repeat("1", many) + "\n", played{errno: 220, line: 1}},
		{strings.Repeat(" ", many) + "\n", played{errno: 220, line: 1}},
		{"time" + strings.Repeat(" ", many) + "\n", played{errno: 220, line: 1}},
		{strings.Repeat("\n", many), played{errno: 221}},
		{strings.Repeat("time\n", many/4), played{errno: 221}},
		{strings.Repeat("\x00", many), played{errno: 220, line: 1}},
		{strings.Repeat("\xff\n", many/2), played{errno: 221}},
		{strings.Repeat("time\n", 300) + long, played{errno: 221}},
		{strings.Repeat("time\n", 299) + long, played{errno: 220, line: 300}},
		{strings.Repeat("time\n", 299) + long + "\n", played{errno: 220, line: 300}},
		{strings.Repeat(long[:many/512]+"\n", 300), played{errno: 220, line: 1}},
	} {
		if got := run(c.script); got != c.want {
			t.Errorf("%s: %s, %d, %d; not %d, %d", brief(c.script), brief(got.transcript), got.errno, got.line, c.want.errno, c.want.line)
		}
	}
}

// Rule R1: as many lines as there may be, with much to do in each.
func TestLongScripts(t *testing.T) {
	t.Parallel()
	script := busy
	for i := range 292 {
		script += []string{"round 100", "cordon n", "time", "lose 1", "running 0", "tick 100", "cell 1", "place", "uncordon n", "round 20", "status", "start", "copy 0"}[i%13] + "\n"
	}
	if got := check(t, script); got.errno != 0 || strings.Count(got.transcript, "\n") != 300 {
		t.Error(got.errno, got.line)
	}
}

// Rule R3: a script may lie in memory that is changed later; it is not changed, and a transcript does not lie in it.
func TestScriptsNotKept(t *testing.T) {
	for _, s := range []string{busy + looks, "time\n", "add n 0 2 zone=a\nstart\nadd n 0 2 zone=a\nsubmit a 3 0 2 4 zone\ncell 0\nround 64\nrunning 0\n", "tick\n", ""} {
		own := []byte(s)
		before := slices.Clone(own)
		got := run(unsafe.String(unsafe.SliceData(own), len(own)))
		kept := played{strings.Clone(got.transcript), got.errno, got.line}
		if !slices.Equal(own, before) || got != said(s) {
			t.Errorf("%q: %v; %q", s, got, own)
		}
		for i := range own {
			own[i] = 'z'
		}
		if got != kept || run(s) != kept {
			t.Errorf("%q: %v; not %v", s, got, kept)
		}
	}
}

// Rule R4: a script has the same transcript whatever was played ahead of it, or is played at the same time.
func TestScriptsApart(t *testing.T) {
	t.Parallel()
	random := rand.New(rand.NewSource(7))
	var scripts []string
	var first []played
	for range 40 {
		scripts = append(scripts, joined(randomScript(random, 60)))
		first = append(first, run(scripts[len(scripts)-1]))
	}
	var group sync.WaitGroup
	for i := range 8 {
		group.Go(func() {
			for k := range scripts {
				k = (k*7 + i*5) % len(scripts)
				if got := run(scripts[k]); got != first[k] {
					t.Errorf("%q: %v; not %v", scripts[k], got, first[k])
				}
			}
		})
	}
	group.Wait()
}
