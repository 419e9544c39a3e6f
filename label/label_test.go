package label_test

import (
	"math/rand"
	"regexp"
	"slices"
	"strings"
	"testing"
	"unsafe"

	"billet/api"
	"billet/label"
)

// The chapter's definitions of the forms, but for the order of the keys.
const (
	name = `[a-z0-9]{1,12}`
	pair = name + `=` + name
	term = `(?:` + name + `|!` + name + `|` + pair + `|` + name + `!=` + name + `)`
)

var (
	nameForm     = regexp.MustCompile(`\A` + name + `\z`)
	labelsForm   = regexp.MustCompile(`\A(?:` + pair + `(?:,` + pair + `){0,3})?\z`)
	selectorForm = regexp.MustCompile(`\A(?:` + term + `(?:,` + term + `){0,3})?\z`)
	termParts    = regexp.MustCompile(`\A(!?)(` + name + `)(?:(!?)=(` + name + `))?\z`)
)

// items are what stands between commas.
func items(s string) []string {
	if s == "" {
		return nil
	}
	return strings.Split(s, ",")
}

// keyOf is what stands ahead of a label's value.
func keyOf(item string) string {
	return item[:strings.Index(item, "=")]
}

// areLabels is the chapter's definition of labels.
func areLabels(s string) bool {
	if !labelsForm.MatchString(s) {
		return false
	}
	all := items(s)
	for i := 1; i < len(all); i++ {
		if keyOf(all[i-1]) >= keyOf(all[i]) {
			return false
		}
	}
	return true
}

// valueOf is the chapter's definition of Value.
func valueOf(labels, key string) (string, bool) {
	if areLabels(labels) {
		for _, item := range items(labels) {
			if keyOf(item) == key {
				return item[len(key)+1:], true
			}
		}
	}
	return "", false
}

// holds is the chapter's definition of a term that holds for labels.
func holds(term, labels string) bool {
	p := termParts.FindStringSubmatch(term)
	value, there := valueOf(labels, p[2])
	switch {
	case p[4] == "" && p[1] == "":
		return there
	case p[4] == "":
		return !there
	case p[3] == "":
		return there && value == p[4]
	default:
		return !there || value != p[4]
	}
}

// matched is the chapter's definition of Match.
func matched(selector, labels string) (bool, api.Errno) {
	if !selectorForm.MatchString(selector) || !areLabels(labels) {
		return false, api.ErrLabelForm
	}
	for _, term := range items(selector) {
		if !holds(term, labels) {
			return false, api.OK
		}
	}
	return true, api.OK
}

// both is the chapter's definition of Both: the terms go one by one to where they belong, if they are not there yet.
func both(a, b string) (string, api.Errno) {
	if !selectorForm.MatchString(a) || !selectorForm.MatchString(b) {
		return "", api.ErrLabelForm
	}
	var terms []string
	for _, term := range append(items(a), items(b)...) {
		i := 0
		for i < len(terms) && terms[i] < term {
			i++
		}
		if i == len(terms) || terms[i] != term {
			terms = slices.Insert(terms, i, term)
		}
	}
	if len(terms) > 4 {
		return "", api.ErrLabelForm
	}
	return strings.Join(terms, ","), api.OK
}

// someKeys and someValues begin with each other, and are each other.
var (
	someKeys   = []string{"a", "aa", "b"}
	someValues = []string{"a", "b", "bb"}
)

// someTerms are those of some keys and values.
func someTerms() []string {
	var all []string
	for _, key := range someKeys {
		all = append(all, key, "!"+key)
		for _, value := range someValues {
			all = append(all, key+"="+value, key+"!="+value)
		}
	}
	return all
}

// someLabels are all labels of some keys and values.
func someLabels() []string {
	all := []string{""}
	for _, key := range someKeys {
		for _, before := range slices.Clone(all) {
			for _, value := range someValues {
				all = append(all, strings.TrimPrefix(before+","+key+"="+value, ","))
			}
		}
	}
	return all
}

// someSelectors are all that have at most two of some terms.
func someSelectors() []string {
	all := append([]string{""}, someTerms()...)
	for _, a := range someTerms() {
		for _, b := range someTerms() {
			all = append(all, a+","+b)
		}
	}
	return all
}

// randomSelector is one of so many of some terms.
func randomSelector(random *rand.Rand, many int) string {
	all := someTerms()
	var terms []string
	for range many {
		terms = append(terms, all[random.Intn(len(all))])
	}
	return strings.Join(terms, ",")
}

// randomName is of any length up to one more than it may be.
func randomName(random *rand.Rand) string {
	s := make([]byte, 1+random.Intn(13)*random.Intn(2))
	for i := range s {
		s[i] = "az09my"[random.Intn(6)]
	}
	return string(s)
}

// randomForm is near selectors and labels: up to six items with names of any length, ascending or not, at times with a byte put in, changed or left out.
func randomForm(random *rand.Rand) string {
	var all []string
	plain := random.Intn(2) == 0
	for range random.Intn(7) {
		a, b := randomName(random), randomName(random)
		forms := []string{a + "=" + b, a + "!=" + b, a, "!" + a}
		if plain {
			forms = forms[:1]
		}
		all = append(all, forms[random.Intn(len(forms))])
	}
	if random.Intn(3) > 0 {
		slices.Sort(all)
	}
	s := strings.Join(all, ",")
	if random.Intn(2) == 0 {
		return s
	}
	i := random.Intn(len(s) + 1)
	b := string([]byte{"!=,a9zA-_ \n\x00/:`{\x80\xff"[random.Intn(18)]})
	return s[:i] + []string{"", b}[random.Intn(2)] + s[min(len(s), i+random.Intn(2)):]
}

// checkForms holds IsName, IsLabels and IsSelector against the definitions.
func checkForms(t *testing.T, s string) {
	t.Helper()
	got := [3]bool{label.IsName(s), label.IsLabels(s), label.IsSelector(s)}
	if want := [3]bool{nameForm.MatchString(s), areLabels(s), selectorForm.MatchString(s)}; got != want {
		t.Errorf("%q: %v, not %v", s, got, want)
	}
}

// checkValue holds Value against the definition.
func checkValue(t *testing.T, labels, key string) {
	t.Helper()
	got, ok := label.Value(labels, key)
	if want, there := valueOf(labels, key); got != want || ok != there {
		t.Errorf("Value of %q in %q is %q, %v; not %q, %v", key, labels, got, ok, want, there)
	}
}

// checkMatch holds Match against the definition.
func checkMatch(t *testing.T, selector, labels string) {
	t.Helper()
	got, e := label.Match(selector, labels)
	if want, wantE := matched(selector, labels); got != want || e != wantE {
		t.Errorf("Match of %q and %q is %v, %d; not %v, %d", selector, labels, got, e, want, wantE)
	}
}

// checkBoth holds Both against the definition.
func checkBoth(t *testing.T, a, b string) {
	t.Helper()
	got, e := label.Both(a, b)
	if want, wantE := both(a, b); got != want || e != wantE {
		t.Errorf("Both of %q and %q is %q, %d; not %q, %d", a, b, got, e, want, wantE)
	}
}

// checkTidy holds Tidy against the definition.
func checkTidy(t *testing.T, s string) {
	t.Helper()
	got, e := label.Tidy(s)
	if want, wantE := both(s, s); got != want || e != wantE {
		t.Errorf("Tidy of %q is %q, %d; not %q, %d", s, got, e, want, wantE)
	}
}

// longest is a selector or labels with as many bytes as there may be: four items with names of 12 bytes, with sign between key and value.
func longest(sign string) string {
	var all []string
	for _, b := range "abcd" {
		key := strings.Repeat("z", 11) + string(b)
		all = append(all, key+sign+key)
	}
	return strings.Join(all, ",")
}

// L1: the chapter's examples and others that are worked out by hand: whether a text is a name, labels, a selector.
func TestFormsTell(t *testing.T) {
	for _, c := range []struct {
		s                      string
		name, labels, selector bool
	}{
		{"zone=a,disk=ssd", false, false, true}, {"disk=ssd,zone=a", false, true, true}, {"zone=a,!gpu", false, false, true}, {"disk!=ssd", false, false, true},
		{"", false, true, true}, {"a", true, false, true}, {"z", true, false, true}, {"0", true, false, true}, {"9", true, false, true}, {"007", true, false, true},
		{"abcdefghijkl", true, false, true}, {"abcdefghijklm", false, false, false}, {"A", false, false, false}, {"a b", false, false, false}, {"é", false, false, false},
		// The four forms, and what is almost one.
		{"!a", false, false, true}, {"a=b", false, true, true}, {"a!=b", false, false, true}, {"a=a", false, true, true},
		{"!", false, false, false}, {"=", false, false, false}, {"!=", false, false, false}, {",", false, false, false},
		{"!!a", false, false, false}, {"a!", false, false, false}, {"a!b", false, false, false}, {"a=", false, false, false}, {"=b", false, false, false},
		{"a!=", false, false, false}, {"!=b", false, false, false}, {"!a=b", false, false, false}, {"!a!=b", false, false, false}, {"a!!=b", false, false, false},
		{"a=!b", false, false, false}, {"a=b!", false, false, false}, {"a==b", false, false, false}, {"a=b=c", false, false, false}, {"a!=b!=c", false, false, false}, {"a! =b", false, false, false},
		{"abcdefghijklm=a", false, false, false}, {"a=abcdefghijklm", false, false, false}, {"!abcdefghijklm", false, false, false}, {"a!=abcdefghijklm", false, false, false}, {"!abcdefghijkl", false, false, true},
		// Keys of labels ascend strictly and bytewise; digits stand ahead of letters, and values don't count.
		{"a=b,a=c", false, false, true}, {"a=b,a=b", false, false, true}, {"b=a,a=b", false, false, true}, {"a=2,b=1", false, true, true},
		{"a=x,aa=x", false, true, true}, {"aa=x,a=x", false, false, true}, {"a=x,a0=x", false, true, true}, {"9=x,a=x", false, true, true}, {"a=x,9=x", false, false, true}, {"10=x,9=x", false, true, true}, {"9=x,10=x", false, false, true},
		{"a=x,b=x,c=x,b=x", false, false, true}, {"a=x,c=x,b=x", false, false, true},
		{"a=x,b", false, false, true}, {"a=x,!b", false, false, true}, {"a=x,b!=x", false, false, true}, {"a!=x,b=x", false, false, true},
		// Empty items, and too many.
		{"a,", false, false, false}, {",a", false, false, false}, {"a,,b", false, false, false}, {"a=b,", false, false, false}, {",a=b", false, false, false}, {"a=b,,c=d", false, false, false}, {"a=b, c=d", false, false, false},
		{"a,b,c,d", false, false, true}, {"a,b,c,d,e", false, false, false}, {"a,a,a,a", false, false, true}, {"a,a,a,a,a", false, false, false}, {"a,b,c,d,", false, false, false},
		{"a=1,b=1,c=1,d=1", false, true, true}, {"a=1,b=1,c=1,d=1,e=1", false, false, false}, {"a=1,b=1,c=1,d=1,", false, false, false},
		{longest("="), false, true, true}, {longest("!="), false, false, true}, {longest("=") + "z", false, false, false},
	} {
		if got, want := [3]bool{label.IsName(c.s), label.IsLabels(c.s), label.IsSelector(c.s)}, [3]bool{c.name, c.labels, c.selector}; got != want {
			t.Errorf("%q: %v, not %v", c.s, got, want)
		}
	}
}

// L1: every byte alone and in each place of a name of every length, and of the names in each form.
func TestFormsOfAnyByte(t *testing.T) {
	for b := range 256 {
		other := string([]byte{byte(b)})
		for long := range 15 {
			s := strings.Repeat("m", long)
			for i := range long + 1 {
				checkForms(t, s[:i]+other+s[i:])
			}
		}
		for _, s := range []string{"!ab", "ab=cd", "ab!=cd", "ab=cd,ef=gh", "ab,!cd"} {
			for i := range s {
				checkForms(t, s[:i]+other+s[i+1:])
				checkForms(t, s[:i]+other+s[i:])
			}
			checkForms(t, s+other)
		}
	}
}

// L1: all texts of a few bytes that could be names, signs and commas.
func TestFormsOfAnyShortText(t *testing.T) {
	texts := []string{""}
	for len(texts[len(texts)-1]) < 8 {
		var longer []string
		for _, s := range texts {
			checkForms(t, s)
			for _, b := range []string{"!", ",", "=", "a"} {
				longer = append(longer, s+b)
			}
		}
		texts = longer
	}
	for _, s := range texts {
		checkForms(t, s)
	}
}

// L1: longer texts near the forms, and whatever Value answers of them.
func TestFormsOfRandomTexts(t *testing.T) {
	random := rand.New(rand.NewSource(1))
	for range 40000 {
		s := randomForm(random)
		checkForms(t, s)
		checkValue(t, s, randomName(random))
		for _, item := range strings.SplitN(s, ",", 9) {
			checkValue(t, s, item)
			key, value, _ := strings.Cut(item, "=")
			checkValue(t, s, key)
			checkValue(t, s, value)
		}
	}
}

// L1: the value of the first, a middle and the last key; keys that are not there, or none; labels that are none.
func TestValueTells(t *testing.T) {
	for _, c := range []struct {
		labels, key, want string
		ok                bool
	}{
		{"disk=ssd,zone=a", "disk", "ssd", true}, {"disk=ssd,zone=a", "zone", "a", true}, {"disk=ssd,gpu=0,zone=a", "gpu", "0", true},
		{"disk=ssd,zone=a", "gpu", "", false}, {"disk=ssd,zone=a", "ssd", "", false}, {"disk=ssd,zone=a", "a", "", false}, {"disk=ssd,zone=a", "", "", false},
		{"disk=ssd,zone=a", "dis", "", false}, {"disk=ssd,zone=a", "isk", "", false}, {"disk=ssd,zone=a", "disks", "", false}, {"disk=ssd,zone=a", "zone=a", "", false},
		{"disk=ssd,zone=a", "disk=ssd", "", false}, {"disk=ssd,zone=a", "disk=ssd,zone", "", false}, {"disk=ssd,zone=a", "disk=", "", false}, {"disk=ssd,zone=a", "!gpu", "", false}, {"disk=ssd,zone=a", "Disk", "", false},
		{"a=b,b=a", "a", "b", true}, {"a=b,b=a", "b", "a", true}, {"a=a", "a", "a", true}, {"a=1,aa=2", "aa", "2", true}, {"a=1,aa=2", "a", "1", true},
		{"", "", "", false}, {"", "a", "", false},
		{longest("="), "zzzzzzzzzzzd", "zzzzzzzzzzzd", true},
		// Not labels, though the key seems to be there.
		{"zone=a,disk=b", "zone", "", false}, {"zone=a,disk=b", "disk", "", false}, {"a=1,a=2", "a", "", false}, {"a", "a", "", false}, {"a=", "a", "", false}, {"=a", "", "", false},
		{"a=1,b", "a", "", false}, {"a=1,!b", "a", "", false}, {"a=1,b!=2", "a", "", false}, {"a!=1", "a", "", false}, {"a!=1", "a!", "", false}, {"a=1,", "a", "", false}, {",a=1", "a", "", false}, {"a=B", "a", "", false},
		{"a=1,b=1,c=1,d=1,e=1", "a", "", false}, {"a=1,b=1,c=1,d=1,e=1", "e", "", false},
	} {
		if got, ok := label.Value(c.labels, c.key); got != c.want || ok != c.ok {
			t.Errorf("Value of %q in %q is %q, %v; not %q, %v", c.key, c.labels, got, ok, c.want, c.ok)
		}
	}
}

// L2: the chapter's examples, each form of a term for labels with that value, another one and none, and wrong inputs.
func TestMatchTells(t *testing.T) {
	const l, good, no, bad = "disk=ssd,zone=a", "good", "no", "bad"
	for _, c := range []struct{ selector, labels, want string }{
		{"zone=a,!gpu", l, good}, {"disk!=ssd", l, no},
		{"", l, good}, {"", "", good}, {"a", "", no}, {"!a", "", good}, {"a=b", "", no}, {"a!=b", "", good},
		{"zone", l, good}, {"!zone", l, no}, {"zone=a", l, good}, {"zone=b", l, no}, {"zone!=a", l, no}, {"zone!=b", l, good},
		{"gpu", l, no}, {"!gpu", l, good}, {"gpu=a", l, no}, {"gpu!=a", l, good}, {"gpu=ssd", l, no}, {"gpu!=ssd", l, good},
		{"zone=ssd", l, no}, {"zone!=ssd", l, good}, {"a", l, no}, {"!a", l, good}, {"zone=aa", l, no}, {"dis", l, no},
		// All terms must hold, in any order, also twice, also if none could.
		{"gpu,zone", l, no}, {"zone,gpu", l, no}, {"zone,disk", l, good}, {"zone,zone,zone,zone", l, good}, {"zone,!zone", l, no}, {"!zone,zone", l, no}, {"zone=a,zone=b", l, no},
		{"zone=a,zone!=b,zone,!gpu", l, good}, {"zone=a,zone!=b,zone,gpu", l, no}, {"zone!=a,zone=b,!zone,gpu", l, no}, {"!gpu,!x,!y,disk=hdd", l, no}, {"disk=hdd,!gpu,!x,!y", l, no},
		// Not a selector, not labels, or neither; whether the rest would match doesn't matter.
		{"A", l, bad}, {"zone,", l, bad}, {",", l, bad}, {"zone=a,zone=a,zone=a,zone=a,zone=a", l, bad}, {"!zone=a", l, bad}, {"gpu,=", l, bad}, {"abcdefghijklm", l, bad},
		{"zone", "zone=a,disk=ssd", bad}, {"zone", "zone", bad}, {"zone", "zone=", bad}, {"", "a", bad}, {"", "a=1,a=1", bad}, {"", "a=1,b=1,c=1,d=1,e=1", bad}, {"gpu", "!zone", bad}, {"", "zone!=a", bad},
		{"A", "B", bad}, {",", ",", bad},
	} {
		got, e := label.Match(c.selector, c.labels)
		if got != (c.want == good) || (e == api.ErrLabelForm) != (c.want == bad) || (e == api.OK) != (c.want != bad) {
			t.Errorf("Match of %q and %q is %v, %d; not %s", c.selector, c.labels, got, e, c.want)
		}
	}
}

// L2: all selectors of two terms and many longer ones, for all labels.
func TestMatchIsTheDefinition(t *testing.T) {
	random := rand.New(rand.NewSource(2))
	selectors := someSelectors()
	for range 400 {
		selectors = append(selectors, randomSelector(random, 3+random.Intn(3)))
	}
	for _, selector := range selectors {
		for _, labels := range someLabels() {
			checkMatch(t, selector, labels)
		}
	}
}

// L2: texts near the forms.
func TestMatchOfRandomTexts(t *testing.T) {
	random := rand.New(rand.NewSource(3))
	for range 20000 {
		a, b := randomForm(random), randomForm(random)
		for _, s := range []string{a, b} {
			checkMatch(t, s, a)
			checkMatch(t, s, "")
			checkMatch(t, "", s)
		}
	}
}

// L3: the chapter's example, the order of the forms, terms that stand twice, and wrong inputs.
func TestTidyTells(t *testing.T) {
	for _, c := range []struct{ s, want string }{
		{"b,a,b", "a,b"}, {"", ""}, {"a", "a"}, {"!a", "!a"}, {"a=b", "a=b"}, {"a,a", "a"}, {"a,a,a,a", "a"}, {"d,c,b,a", "a,b,c,d"}, {"b,a,b,a", "a,b"}, {"a=b,a=b", "a=b"},
		// ! stands ahead of digits, these ahead of =, and this ahead of letters; what begins with another one stands behind it.
		{"a,!b", "!b,a"}, {"a,9,!z", "!z,9,a"}, {"a=b,a!=b,a,!a", "!a,a,a!=b,a=b"}, {"ab,a=b,a0,a", "a,a0,a=b,ab"}, {"aa,a,aaa", "a,aa,aaa"}, {"9,10", "10,9"}, {"a=c,a=b", "a=b,a=c"}, {"z=1,!a,z=1", "!a,z=1"},
		// Different terms, though they say the same.
		{"a=b,a", "a,a=b"}, {"!a,a", "!a,a"},
		{longest("="), longest("=")}, {longest("!="), longest("!=")},
	} {
		if got, e := label.Tidy(c.s); got != c.want || e != api.OK {
			t.Errorf("Tidy of %q is %q, %d; not %q", c.s, got, e, c.want)
		}
	}
	for _, s := range []string{"A", ",", "a,", ",a", "a,,b", "!a=b", "a,b,c,d,e", "a,a,a,a,a", "a=", "!", "abcdefghijklm"} {
		if got, e := label.Tidy(s); got != "" || e != api.ErrLabelForm {
			t.Errorf("Tidy of %q is %q, %d", s, got, e)
		}
	}
}

// L3: as many different terms as there may be, one more, and either side wrong.
func TestBothTells(t *testing.T) {
	for _, c := range []struct{ a, b, want string }{
		{"", "", ""}, {"a", "", "a"}, {"", "a", "a"}, {"a", "a", "a"}, {"b", "a", "a,b"}, {"a,b", "b,c,d", "a,b,c,d"}, {"d,c", "b,a", "a,b,c,d"}, {"c,a", "d,b", "a,b,c,d"},
		{"b,a,b", "", "a,b"}, {"", "b,a,b", "a,b"}, {"b,b,b,b", "a,a,a,a", "a,b"}, {"a,b,c,d", "d,c,b,a", "a,b,c,d"}, {"a,b,c,d", "", "a,b,c,d"}, {"d,c,b,a", "b", "a,b,c,d"}, {"", "d,c,b,a", "a,b,c,d"}, {"a,b,a,b", "c,d,c,d", "a,b,c,d"},
		{"a=1", "a!=1", "a!=1,a=1"}, {"a", "!a", "!a,a"}, {"a=1", "a=2", "a=1,a=2"}, {longest("="), longest("="), longest("=")},
	} {
		if got, e := label.Both(c.a, c.b); got != c.want || e != api.OK {
			t.Errorf("Both of %q and %q is %q, %d; not %q", c.a, c.b, got, e, c.want)
		}
	}
	for _, c := range [][2]string{
		{"a,b", "c,d,e"}, {"a,b,c,d", "e"}, {"e", "a,b,c,d"}, {"a,b,c,d", "a,b,c,e"}, {"a,b,c,d", "e,f,g,h"}, {"a,b,c,d", "!a"}, {"a=1,a=2,a=3", "a=4,a=5"}, {longest("="), longest("!=")},
		{"A", "a"}, {"a", "A"}, {"A", ""}, {"", "A"}, {"A", "A"}, {"a,", "b"}, {"a", ",b"}, {"a,a,a,a,a", "a"}, {"a", "a,a,a,a,a"}, {"!a=b", "a"}, {"a", "a="},
	} {
		if got, e := label.Both(c[0], c[1]); got != "" || e != api.ErrLabelForm {
			t.Errorf("Both of %q and %q is %q, %d", c[0], c[1], got, e)
		}
	}
}

// L3: all pairs of a few terms, longer ones, and texts near the forms.
func TestTidyAndBothAreTheDefinition(t *testing.T) {
	random := rand.New(rand.NewSource(4))
	selectors := someSelectors()
	for _, a := range selectors {
		checkTidy(t, a)
		for range 30 {
			checkBoth(t, a, selectors[random.Intn(len(selectors))])
		}
	}
	for range 20000 {
		a, b := randomSelector(random, random.Intn(6)), randomSelector(random, random.Intn(6))
		checkTidy(t, a)
		checkBoth(t, a, b)
		c := randomForm(random)
		checkTidy(t, c)
		checkBoth(t, a, c)
		checkBoth(t, c, b)
	}
}

// mustMatch is what Match answers, which must be without an error.
func mustMatch(t *testing.T, selector, labels string) bool {
	t.Helper()
	got, e := label.Match(selector, labels)
	if e != api.OK {
		t.Fatalf("Match of %q and %q is %d", selector, labels, e)
	}
	return got
}

// L4: Tidy of a selector matches the same labels, and again changes nothing.
func TestTidyMatchesTheSame(t *testing.T) {
	random := rand.New(rand.NewSource(5))
	selectors := someSelectors()
	for range 300 {
		selectors = append(selectors, randomSelector(random, 3+random.Intn(2)))
	}
	for _, s := range selectors {
		tidy, e := label.Tidy(s)
		again, e2 := label.Tidy(tidy)
		if e != api.OK || e2 != api.OK || again != tidy || !label.IsSelector(tidy) {
			t.Errorf("Tidy of %q is %q, %d, then %q, %d", s, tidy, e, again, e2)
		}
		for _, labels := range someLabels() {
			if mustMatch(t, s, labels) != mustMatch(t, tidy, labels) {
				t.Errorf("%q and %q don't match %q both", s, tidy, labels)
			}
		}
	}
}

// L4: Both matches just what a and b match, and is in the form of Tidy, whichever comes first.
func TestBothMatchesWhatTheyMatch(t *testing.T) {
	random := rand.New(rand.NewSource(6))
	for range 1500 {
		a, b := randomSelector(random, random.Intn(4)), randomSelector(random, random.Intn(3))
		both, e := label.Both(a, b)
		other, e2 := label.Both(b, a)
		if tidy, _ := label.Tidy(both); both != other || e != e2 || tidy != both {
			t.Errorf("Both of %q and %q is %q, %d; the other way %q, %d; tidy %q", a, b, both, e, other, e2, tidy)
		}
		if e != api.OK {
			continue
		}
		for _, labels := range someLabels() {
			if want := mustMatch(t, a, labels) && mustMatch(t, b, labels); mustMatch(t, both, labels) != want {
				t.Errorf("%q of %q and %q: %q should match: %v", both, a, b, labels, want)
			}
		}
	}
}

// L4: of a form and its contrary exactly one holds.
func TestExactlyOneHolds(t *testing.T) {
	for _, labels := range append(someLabels(), "disk=ssd,zone=a", longest("=")) {
		for _, key := range append(slices.Clone(someKeys), "zone", "zzzzzzzzzzzd") {
			if mustMatch(t, key, labels) == mustMatch(t, "!"+key, labels) {
				t.Errorf("%q: %q and its contrary", labels, key)
			}
			for _, value := range append(slices.Clone(someValues), "ssd", "zzzzzzzzzzzd") {
				if mustMatch(t, key+"="+value, labels) == mustMatch(t, key+"!="+value, labels) {
					t.Errorf("%q: %q=%q and its contrary", labels, key, value)
				}
			}
		}
	}
}

// R1: texts far beyond any form are none, alone and beside good ones.
func TestHugeTexts(t *testing.T) {
	for _, part := range []string{"a", ",", "=", "!", "a,", "a=b,", "!a,", "a=", "!=", "\x00", "\xff"} {
		s := strings.Repeat(part, 1<<22)
		checks := map[string]bool{"IsName": label.IsName(s), "IsLabels": label.IsLabels(s), "IsSelector": label.IsSelector(s)}
		for what, ok := range checks {
			if ok {
				t.Errorf("%s of many %q", what, part)
			}
		}
		if got, ok := label.Value(s, "a"); got != "" || ok {
			t.Errorf("Value in many %q", part)
		}
		if got, ok := label.Value("a=b", s); got != "" || ok {
			t.Errorf("Value of many %q", part)
		}
		_, e1 := label.Match(s, "")
		_, e2 := label.Match("", s)
		_, e3 := label.Tidy(s)
		_, e4 := label.Both(s, "a")
		_, e5 := label.Both("a", s)
		if got := [5]api.Errno{e1, e2, e3, e4, e5}; got != [5]api.Errno{40, 40, 40, 40, 40} {
			t.Errorf("many %q: %v", part, got)
		}
	}
}

// within reports whether got lies in the memory of s.
func within(got, s string) bool {
	start, at := uintptr(unsafe.Pointer(unsafe.StringData(s))), uintptr(unsafe.Pointer(unsafe.StringData(got)))
	return got != "" && start <= at && at < start+uintptr(len(s))
}

// R3: answers are new memory, also where they are a piece of an argument, or all of it.
func TestAnswersAreNewMemory(t *testing.T) {
	for _, s := range []string{"abc=def", "abc=def,xyz=uvw"} {
		labels := strings.Clone(s)
		if got, _ := label.Value(labels, "abc"); within(got, labels) {
			t.Errorf("Value in %q", s)
		}
	}
	for _, s := range []string{"abc", "abc=def", "abc,abc", "abc,xyz"} {
		selector := strings.Clone(s)
		tidy, _ := label.Tidy(selector)
		first, _ := label.Both(selector, "")
		second, _ := label.Both("", selector)
		if within(tidy, selector) || within(first, selector) || within(second, selector) {
			t.Errorf("Tidy or Both of %q", s)
		}
	}
}
