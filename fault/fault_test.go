package fault

import (
	"errors"
	"fmt"
	"slices"
	"strconv"
	"sync"
	"testing"

	"epact/api"
)

// other is an error with whatever text.
type other string

func (o other) Error() string { return string(o) }

// alike has the shape of what New makes, and its text.
type alike api.Fault

func (a alike) Error() string { return Text(api.Fault(a)) }

// absent is an error also where it is a nil pointer.
type absent struct{}

func (*absent) Error() string { return "line 3: gap" }

// wrapped hands on the one within, and its text.
type wrapped struct{ error }

func (w wrapped) Unwrap() error { return w.error }

// posing says of itself that it is whatever it is asked for.
type posing struct{ within error }

func (p posing) Error() string   { return p.within.Error() }
func (p posing) Is(error) bool   { return true }
func (p posing) As(any) bool     { return true }
func (p posing) Unwrap() []error { return []error{p.within} }

// someLines tells lines about 0, about the powers of 10 and of 2, and the ends.
func someLines() []int {
	all := []int{0, 1, -1, 2, -2, 3, 7, -7, 42, api.MaxInt, api.MaxInt - 1, api.MinInt, api.MinInt + 1}
	for n, k := 10, 0; k < 18; n, k = n*10, k+1 {
		all = append(all, n-1, n, n+1, -n+1, -n, -n-1)
	}
	for k := range 63 {
		all = append(all, 1<<k-1, 1<<k, -1<<k)
	}
	return all
}

// strangeCodes tells codes that are neither OK nor have a word, among them such as are one with a word in fewer bits.
func strangeCodes() []api.Errno {
	return []api.Errno{-1, -2, -7, -11, -12, 12, 13, 14, 22, 100, 256, 256 + 7, 1<<16 + 7, 1 << 32, 1<<32 + 1, 1<<32 + 7, -1 << 32, -1<<32 + 7, api.MaxInt - 1, api.MaxInt, api.MinInt, api.MinInt + 7}
}

// someCodes tells all codes that have a word, and some that have none; not OK.
func someCodes() []api.Errno {
	all := strangeCodes()
	for code := api.ErrArg; code <= api.ErrNoSuch; code++ {
		all = append(all, code)
	}
	return all
}

// noneOfNew tells errors that New did not make, by what they are.
func noneOfNew() map[string]error {
	one := New(3, api.ErrGap)
	var nobody *absent
	return map[string]error{
		"nil":                     nil,
		"New of OK":               New(3, api.OK),
		"another":                 other("gone"),
		"another without a text":  other(""),
		"another, the same text":  other("line 3: gap"),
		"a new one":               errors.New("gone"),
		"a new one, the same":     errors.New("line 3: gap"),
		"one of the same shape":   alike{Line: 3, Code: api.ErrGap},
		"a zero one of the shape": alike{},
		"a nil pointer":           nobody,
		"wrapped":                 wrapped{one},
		"a pointer to a wrapped":  &wrapped{one},
		"wrapped twice":           wrapped{wrapped{one}},
		"wrapped nothing":         wrapped{},
		"wrapped by the library":  fmt.Errorf("%w", one),
		"two of them wrapped":     fmt.Errorf("%w, %w", one, one),
		"joined, alone":           errors.Join(one),
		"joined":                  errors.Join(one, New(4, api.ErrStep)),
		"one that poses":          posing{one},
		"an error of the library": strconv.ErrRange,
	}
}

// checkMade holds that New of f makes an error of that text, and that f is what is told of it.
func checkMade(t *testing.T, f api.Fault, text string) {
	t.Helper()
	e := New(f.Line, f.Code)
	if e == nil {
		t.Fatalf("New(%d, %d): nil", f.Line, f.Code)
	}
	if s := e.Error(); s != text {
		t.Errorf("New(%d, %d) says %q; want %q", f.Line, f.Code, s, text)
	}
	checkTold(t, e, f)
}

func checkTold(t *testing.T, e error, want api.Fault) {
	t.Helper()
	if f, ok := Of(e); f != want || !ok {
		t.Errorf("Of(%v): %v, %t; want %v, true", e, f, ok, want)
	}
	if f := Must(e); f != want {
		t.Errorf("Must(%v): %v; want %v", e, f, want)
	}
}

func checkNone(t *testing.T, name string, e error) {
	t.Helper()
	if f, ok := Of(e); f != (api.Fault{}) || ok {
		t.Errorf("Of of %s: %v, %t; want a zero fault, false", name, f, ok)
	}
	if f, ok := mustOf(e); ok {
		t.Errorf("Must of %s: %v; want a panic", name, f)
	}
}

// mustOf tells what Must does, and false where it panics.
func mustOf(e error) (f api.Fault, ok bool) {
	defer func() {
		if recover() != nil {
			f, ok = api.Fault{}, false
		}
	}()
	return Must(e), true
}

func checkText(t *testing.T, f api.Fault, want string) {
	t.Helper()
	if s := Text(f); s != want {
		t.Errorf("Text(%v): %q; want %q", f, s, want)
	}
}

func checkFirst(t *testing.T, want api.Fault, l ...api.Fault) {
	t.Helper()
	if f := First(l...); f != want {
		t.Errorf("First of %v: %v; want %v", l, f, want)
	}
}

// P8.1, P8.3: written out: the chapter's example, and the word of each error.
func TestWordsByHand(t *testing.T) {
	for code, text := range map[api.Errno]string{
		api.ErrArg:     "line 3: argument",
		api.ErrForm:    "line 3: form",
		api.ErrHash:    "line 3: hash",
		api.ErrOrder:   "line 3: order",
		api.ErrEnd:     "line 3: end",
		api.ErrStep:    "line 3: step",
		api.ErrGap:     "line 3: gap",
		api.ErrOver:    "line 3: over",
		api.ErrRange:   "line 3: range",
		api.ErrExpired: "line 3: expired",
		api.ErrNoSuch:  "line 3: no such second",
	} {
		f := api.Fault{Line: 3, Code: code}
		checkText(t, f, text)
		checkMade(t, f, text)
	}
}

// P8.1, P8.3: the numbers of the errors, as the chapter counts them.
func TestWordsByNumber(t *testing.T) {
	for k, word := range []string{"argument", "form", "hash", "order", "end", "step", "gap", "over", "range", "expired", "no such second", "error", "error"} {
		f := api.Fault{Line: 1, Code: api.Errno(k + 1)}
		checkText(t, f, "line 1: "+word)
		checkMade(t, f, "line 1: "+word)
	}
}

// P8.1, P8.3: codes below OK and beyond the last one have a common word, and are errors too.
func TestCodesWithoutAWord(t *testing.T) {
	for _, code := range strangeCodes() {
		f := api.Fault{Line: 3, Code: code}
		checkText(t, f, "line 3: error")
		checkMade(t, f, "line 3: error")
	}
}

// P8.1: OK is no error, of whatever line; and it is a plain nil.
func TestNewOfOK(t *testing.T) {
	for _, line := range someLines() {
		if e := New(line, api.OK); e != nil {
			t.Errorf("New(%d, OK): %v; want nil", line, e)
		}
	}
}

// P8.3: Text takes OK too, of whatever line.
func TestTextOfOK(t *testing.T) {
	checkText(t, api.Fault{}, "line 0: error")
	checkText(t, api.Fault{Line: 1}, "line 1: error")
	for _, line := range someLines() {
		checkText(t, api.Fault{Line: line}, "line "+strconv.Itoa(line)+": error")
	}
}

// P8.1, P8.3: written out: lines of 0, below 0, of several digits, and the ends.
func TestLinesByHand(t *testing.T) {
	for line, text := range map[int]string{
		0:          "line 0: gap",
		1:          "line 1: gap",
		-1:         "line -1: gap",
		-7:         "line -7: gap",
		9:          "line 9: gap",
		10:         "line 10: gap",
		100:        "line 100: gap",
		1234567890: "line 1234567890: gap",
		2147483648: "line 2147483648: gap",
		api.MaxInt: "line 9223372036854775807: gap",
		api.MinInt: "line -9223372036854775808: gap",
	} {
		f := api.Fault{Line: line, Code: api.ErrGap}
		checkText(t, f, text)
		checkMade(t, f, text)
	}
}

// P8.4: whatever line, with whatever code: what was made is what is told, and its text is that of the fault.
func TestWhatWasMadeIsTold(t *testing.T) {
	for _, line := range someLines() {
		for _, code := range someCodes() {
			f := api.Fault{Line: line, Code: code}
			checkMade(t, f, Text(f))
		}
	}
}

// P8.4, W2: of many errors, all kept, each tells its own fault.
func TestManyAreKeptApart(t *testing.T) {
	var faults []api.Fault
	var errs []error
	for _, line := range someLines() {
		for _, code := range someCodes() {
			faults = append(faults, api.Fault{Line: line, Code: code})
			errs = append(errs, New(line, code))
		}
	}
	for k, e := range slices.Backward(errs) {
		checkTold(t, e, faults[k])
		if s := e.Error(); s != Text(faults[k]) {
			t.Errorf("%v says %q behind others", faults[k], s)
		}
	}
}

// P8.2, W3: what New did not make has no fault: Of tells a zero one and false, and Must panics.
func TestErrorsThatAreNoneOfNew(t *testing.T) {
	for name, e := range noneOfNew() {
		checkNone(t, name, e)
	}
}

// P8.2: each fault's text on another error, each fault within another error, and each in one of the same shape.
func TestEachFaultWithinAnother(t *testing.T) {
	for _, line := range []int{0, 1, -1, 3, api.MaxInt, api.MinInt} {
		for _, code := range someCodes() {
			e := New(line, code)
			checkNone(t, "the text", other(e.Error()))
			checkNone(t, "one wrapped", wrapped{e})
			checkNone(t, "one joined", errors.Join(e))
			checkNone(t, "one of the same shape", alike{Line: line, Code: code})
		}
	}
}

// P8.2: what a caller unwraps, or finds within, is one of New's again.
func TestUnwrappedByTheCaller(t *testing.T) {
	e := wrapped{New(3, api.ErrGap)}
	checkNone(t, "one wrapped", e)
	checkTold(t, errors.Unwrap(e), api.Fault{Line: 3, Code: api.ErrGap})
	checkTold(t, e.error, api.Fault{Line: 3, Code: api.ErrGap})
}

// P8.2: as a value of another interface it is still one of New's.
func TestHandedOnAsAnotherInterface(t *testing.T) {
	var handed interface{ Error() string } = New(3, api.ErrGap)
	checkTold(t, handed, api.Fault{Line: 3, Code: api.ErrGap})
}

// P8.3: none, one, all OK: the edges that the chapter names.
func TestFirstOfFew(t *testing.T) {
	checkFirst(t, api.Fault{})
	checkFirst(t, api.Fault{}, []api.Fault{}...)
	checkFirst(t, api.Fault{}, api.Fault{})
	for _, line := range someLines() {
		checkFirst(t, api.Fault{}, api.Fault{Line: line})
		checkFirst(t, api.Fault{}, api.Fault{Line: line}, api.Fault{Line: 1}, api.Fault{Line: -1})
		for _, code := range someCodes() {
			f := api.Fault{Line: line, Code: code}
			checkFirst(t, f, f)
			checkFirst(t, f, f, f)
			checkFirst(t, f, api.Fault{Line: api.MinInt}, f, api.Fault{Line: api.MinInt})
		}
	}
}

// P8.3: written out: several of the least line, OK of a lesser one, rising and falling order, the ends.
func TestFirstByHand(t *testing.T) {
	form5, gap3, step3, order9 := api.Fault{Line: 5, Code: api.ErrForm}, api.Fault{Line: 3, Code: api.ErrGap}, api.Fault{Line: 3, Code: api.ErrStep}, api.Fault{Line: 9, Code: api.ErrOrder}
	ok1 := api.Fault{Line: 1}
	checkFirst(t, gap3, gap3, form5, order9)
	checkFirst(t, gap3, order9, form5, gap3)
	checkFirst(t, gap3, form5, gap3, order9)
	checkFirst(t, gap3, gap3, step3)
	checkFirst(t, step3, step3, gap3)
	checkFirst(t, gap3, form5, gap3, step3, order9)
	checkFirst(t, step3, form5, step3, order9, gap3)
	checkFirst(t, gap3, ok1, form5, gap3, step3)
	checkFirst(t, gap3, form5, ok1, gap3, step3)
	checkFirst(t, gap3, form5, gap3, step3, ok1)
	checkFirst(t, order9, ok1, order9, api.Fault{})
	none, last, least := api.Fault{Line: 0, Code: api.ErrArg}, api.Fault{Line: api.MaxInt, Code: api.ErrOver}, api.Fault{Line: api.MinInt, Code: -1}
	checkFirst(t, none, gap3, none, ok1)
	checkFirst(t, last, ok1, last)
	checkFirst(t, gap3, last, gap3)
	checkFirst(t, least, last, none, least)
	checkFirst(t, least, least, none, last)
	checkFirst(t, api.Fault{Line: 2, Code: -7}, gap3, api.Fault{Line: 2, Code: -7})
	checkFirst(t, api.Fault{Line: 2, Code: 99}, gap3, api.Fault{Line: 2, Code: 99})
}

// firstBySorting is another way to First: those that are errors, sorted by lines without changing the order of the others.
func firstBySorting(l []api.Fault) api.Fault {
	errs := slices.DeleteFunc(slices.Clone(l), func(f api.Fault) bool { return f.Code == 0 })
	slices.SortStableFunc(errs, func(a, b api.Fault) int {
		switch {
		case a.Line < b.Line:
			return -1
		case a.Line > b.Line:
			return 1
		}
		return 0
	})
	if len(errs) == 0 {
		return api.Fault{}
	}
	return errs[0]
}

// P8.3: all lists of up to five out of faults of few lines and codes.
func TestFirstOfAllShortLists(t *testing.T) {
	var kinds []api.Fault
	for _, line := range []int{-1, 0, 1, api.MaxInt} {
		for _, code := range []api.Errno{api.OK, api.ErrArg, -1} {
			kinds = append(kinds, api.Fault{Line: line, Code: code})
		}
	}
	var extend func(l []api.Fault)
	extend = func(l []api.Fault) {
		if f, want := First(l...), firstBySorting(l); f != want {
			t.Fatalf("First of %v: %v; want %v", l, f, want)
		}
		if len(l) == 5 {
			return
		}
		for _, f := range kinds {
			extend(append(l, f))
		}
	}
	extend(make([]api.Fault, 0, 5))
}

// P8.3: long lists, in rising and falling order, and with all of one line.
func TestFirstOfLongLists(t *testing.T) {
	var rising, level []api.Fault
	for n := range 100000 {
		rising = append(rising, api.Fault{Line: n + 1, Code: api.Errno(n % 13)})
		level = append(level, api.Fault{Line: 4, Code: api.Errno(n % 13)})
	}
	checkLong := func(l []api.Fault, want api.Fault) {
		t.Helper()
		if f := First(l...); f != want {
			t.Errorf("%v; want %v", f, want)
		}
	}
	checkLong(rising, api.Fault{Line: 2, Code: api.ErrArg})
	slices.Reverse(rising)
	checkLong(rising, api.Fault{Line: 2, Code: api.ErrArg})
	checkLong(level, api.Fault{Line: 4, Code: api.ErrArg})
	slices.Reverse(level)
	checkLong(level, api.Fault{Line: 4, Code: api.Errno(99999 % 13)})
}

// W6: First changes neither what it is given nor its spare room.
func TestFirstChangesNothing(t *testing.T) {
	whole := []api.Fault{{Line: 5, Code: 2}, {Line: 1}, {Line: 3, Code: 7}, {Line: 3, Code: 6}, {Line: 2, Code: 9}, {Line: 8, Code: 8}}
	had := slices.Clone(whole)
	f := First(whole[:4]...)
	if !slices.Equal(whole, had) {
		t.Errorf("%v was changed to %v", had, whole)
	}
	whole[2] = api.Fault{}
	if f != (api.Fault{Line: 3, Code: 7}) {
		t.Errorf("%v, behind a change of the list", f)
	}
}

// W2: calls at the same time do not touch each other.
func TestCallsAtTheSameTime(t *testing.T) {
	var all sync.WaitGroup
	for n := range 16 {
		all.Go(func() {
			for k := range 500 {
				want := api.Fault{Line: n * k, Code: api.Errno(k%12 + 1)}
				e := New(want.Line, want.Code)
				if f, ok := Of(e); f != want || !ok || Must(e) != want || e.Error() != Text(want) || First(api.Fault{}, f) != want {
					t.Errorf("%v is told as %v at the same time as others", want, f)
				}
			}
		})
	}
	all.Wait()
}

// W1, P8.1 to P8.4: whatever line and code.
func FuzzFault(f *testing.F) {
	for _, code := range []int{0, 1, 7, 11, 12, -1, api.MaxInt, api.MinInt} {
		f.Add(3, code)
		f.Add(api.MinInt, code)
		f.Add(api.MaxInt, code)
	}
	f.Fuzz(func(t *testing.T, line, code int) {
		made := api.Fault{Line: line, Code: api.Errno(code)}
		if code == 0 {
			checkNone(t, "New of OK", New(line, api.OK))
			checkFirst(t, api.Fault{}, made)
			return
		}
		text := fmt.Sprintf("line %d: error", line)
		if words := []string{"argument", "form", "hash", "order", "end", "step", "gap", "over", "range", "expired", "no such second"}; code >= 1 && code <= len(words) {
			text = fmt.Sprintf("line %d: %s", line, words[code-1])
		}
		checkText(t, made, text)
		checkMade(t, made, text)
		checkNone(t, "one wrapped", wrapped{New(line, made.Code)})
		checkFirst(t, made, api.Fault{Line: api.MinInt}, made, api.Fault{Line: line, Code: made.Code ^ 1<<40})
	})
}
